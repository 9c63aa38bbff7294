/- Texts of one proof, one behind the other. -/
import Derived.Test.YtglmhdlkhnlkiaaMgTermApplies5
/- types.change: a type in new memory, its variables' numbers changed: what lies in memory between the rounds. -/
namespace Go.Proofs.Ytglmhdlkhnlkiaa
open Go.RowKit

/-- A hole, in a world. -/
def HoleAt (T : TypeId) (rt B : Nat) (w : World) (h : Hole) : Prop :=
  B ≤ h.b ∧ isT T rt w h.b ∧ w.cell? ⟨h.b, h.off, none⟩ = some (.int .i64 h.k) ∧ w.cell? ⟨h.b, h.off + 1, none⟩ = some (.int .i64 h.n) ∧ w.cell? ⟨h.b, h.off + 2, none⟩ = some (slv h.u) ∧ TyV B w h.ps (slv h.u)
def ptrs (Hs : List Hole) : List Value := Hs.map fun h => .pointer (some ⟨h.b, h.off, none⟩)
theorem ptrs_len (Hs : List Hole) : (ptrs Hs).length = Hs.length := by simp [ptrs]
theorem ptrs_app (a b : List Hole) : ptrs (a ++ b) = ptrs a ++ ptrs b := by simp [ptrs]
theorem ptrs_one (a : List Hole) : ∀ u ∈ ptrs a, u.oneCell' = true := by
  intro u hu
  obtain ⟨h, _, rfl⟩ := List.mem_map.1 hu
  rfl
/-- A type's cells, new. -/
def rt0 : Array Value := #[.int .i64 0, .int .i64 0, .slice none 0 0]
/-- Between two rounds. -/
def ChInv (num : Int → Int) (T P : TypeId) (w0 : World) (rt rb : Nat) (k n : Int) (ps : Fo) (t : Value) (w : World) (s : Nat) : Prop :=
  ∃ Hs : List Hole, left_ Hs = s ∧ s ≤ 1000000 ∧ w.ownsRow w0.heap.size P 1 t Hs.length (ptrs Hs) ∧ (∀ h ∈ Hs, HoleAt T rt w0.heap.size w h) ∧ Hs.Pairwise Apart ∧
    Wand num T rt w0.heap.size rb k n ps w Hs ∧ Below w0.heap.size w0 w ∧ w.heap[rt]? = some (Obj.cells rt0 T) ∧ w0.heap.size ≤ rt ∧ isT T rt w rb
/-- A block of one's own, new and full. -/
theorem own_full (w : World) (H : Nat) (hH : H ≤ w.heap.size) (e : TypeId) (size n : Nat) (L : List Value) (hL : L.length = n * size) (hn : n ≤ maxLen) : (w.alloc (.cells L.toArray e)).ownsRow H e size (.slice (some ⟨w.heap.size, 0, none⟩) n n) n L :=
  ⟨hL, .inr ⟨w.heap.size, n, L.toArray, rfl, hH, heap_alloc_new w _, Nat.le_refl _, hn, by simp [hL], by simp [← hL]⟩⟩
theorem cell_of_isT {w w' : World} {b : Nat} (h : w'.heap[b]? = w.heap[b]?) (off : Nat) : w'.cell? ⟨b, off, none⟩ = w.cell? ⟨b, off, none⟩ := World.cell?_of_block h
theorem frozen_cells {w : World} {b : Nat} {cs : Array Value} {T : TypeId} (h : w.heap[b]? = some (Obj.cells cs T)) (off : Nat) : w.frozen? ⟨b, off, none⟩ = false := by
  simp [World.frozen?, h]
/-- What a step of the walk leaves as it is: every block of types. -/
def KeepT (T : TypeId) (w w' : World) : Prop := w.heap.size ≤ w'.heap.size ∧ ∀ (b : Nat) (cs : Array Value), w.heap[b]? = some (Obj.cells cs T) → w'.heap[b]? = some (Obj.cells cs T)
theorem KeepT.refl (T : TypeId) (w : World) : KeepT T w w := ⟨Nat.le_refl _, fun _ _ h => h⟩
theorem KeepT.trans {T : TypeId} {a b c : World} (h : KeepT T a b) (k : KeepT T b c) : KeepT T a c := ⟨Nat.le_trans h.1 k.1, fun i cs hi => k.2 i cs (h.2 i cs hi)⟩
theorem KeepT.alloc {T : TypeId} {a b : World} (h : KeepT T a b) (o : Obj) : KeepT T a (b.alloc o) :=
  ⟨by simp only [World.size_alloc]; exact Nat.le_succ_of_le h.1, fun i cs hi => (Below.heap_alloc _ _ _ (Array.getElem?_eq_some_iff.1 (h.2 i cs hi)).1).trans (h.2 i cs hi)⟩
theorem KeepT.grown {T : TypeId} {a b : World} {row : Option Nat} (hg : a.grownBy b row) (hr : ∀ (r : Nat), row = some r → ∀ (cs : Array Value), a.heap[r]? ≠ some (Obj.cells cs T)) : KeepT T a b :=
  ⟨hg.size, fun i cs hi => (hg.block i (Array.getElem?_eq_some_iff.1 hi).1 (fun e => hr i e.symm cs hi)).trans hi⟩
theorem KeepT.isT {T : TypeId} {rt : Nat} {w w' : World} (h : KeepT T w w') {b : Nat} (hb : isT T rt w b) : isT T rt w' b := by
  obtain ⟨hne, cs, hc⟩ := hb
  exact ⟨hne, cs, h.2 b cs hc⟩
theorem KeepT.cell {T : TypeId} {rt : Nat} {w w' : World} (h : KeepT T w w') {b : Nat} (hb : Go.Proofs.Ytglmhdlkhnlkiaa.isT T rt w b) (off : Nat) : w'.cell? ⟨b, off, none⟩ = w.cell? ⟨b, off, none⟩ := by
  obtain ⟨_, cs, hc⟩ := hb
  exact World.cell?_of_block ((h.2 b cs hc).trans hc.symm)
/-- A row of another kind of things is no block of types. -/
theorem row_not {w : World} {base : Nat} {e T : TypeId} {size : Nat} {v : Value} {n : Nat} {xs : List Value} (h : w.ownsRow base e size v n xs) (hne : e ≠ T) : ∀ (r : Nat), v.ownBlock = some r → ∀ (cs : Array Value), w.heap[r]? ≠ some (Obj.cells cs T) := by
  intro r hr cs hc
  rcases h.2 with ⟨rfl, _⟩ | ⟨g, cap, cur, rfl, _, hg, _⟩
  · cases hr
  · obtain rfl : g = r := by simpa [Value.ownBlock] using hr
    rw [hg] at hc
    injection hc with hc
    injection hc with _ h2 _
    exact hne h2
/-- What a step touches: a hole's cells alone (and what is no block of types). -/
structure Tch (T : TypeId) (rt B : Nat) (h : Hole) (w w' : World) : Prop where
  below : Below B w w'
  kept : ∀ b, Go.Proofs.Ytglmhdlkhnlkiaa.isT T rt w b → Go.Proofs.Ytglmhdlkhnlkiaa.isT T rt w' b
  cell : ∀ b off, Go.Proofs.Ytglmhdlkhnlkiaa.isT T rt w b → Aside [h] b off → w'.cell? ⟨b, off, none⟩ = w.cell? ⟨b, off, none⟩
  rt : ∀ cs, w.heap[rt]? = some (Obj.cells cs T) → w'.heap[rt]? = some (Obj.cells cs T)
theorem Tch.refl (T : TypeId) (rt B : Nat) (h : Hole) (w : World) : Tch T rt B h w w := ⟨Below.refl _ _, fun _ h => h, fun _ _ _ _ => rfl, fun _ h => h⟩
theorem Tch.trans {T : TypeId} {rt B : Nat} {h : Hole} {a b c : World} (x : Tch T rt B h a b) (y : Tch T rt B h b c) : Tch T rt B h a c :=
  ⟨x.below.trans y.below, fun i hi => y.kept i (x.kept i hi), fun i off hi ha => (y.cell i off (x.kept i hi) ha).trans (x.cell i off hi ha), fun cs h => y.rt cs (x.rt cs h)⟩
theorem Tch.keep {T : TypeId} {rt B : Nat} {h : Hole} {a b : World} (k : KeepT T a b) (hb : Below B a b) : Tch T rt B h a b :=
  ⟨hb, fun _ hi => k.isT hi, fun _ off hi _ => k.cell hi off, fun _ hc => k.2 _ _ hc⟩
theorem Tch.set {T : TypeId} {rt B : Nat} {h : Hole} {w : World} (j : Nat) (hj : j < 3) (hT : Go.Proofs.Ytglmhdlkhnlkiaa.isT T rt w h.b) (hB : B ≤ h.b) (v : Value) : Tch T rt B h w (w.setCell ⟨h.b, h.off + j, none⟩ v) := by
  obtain ⟨hne, cs, hc⟩ := hT
  refine ⟨(Below.refl B w).setCell (p := ⟨h.b, h.off + j, none⟩) hB v, fun b ⟨hb, cs2, hc2⟩ => ⟨hb, ?_⟩, fun b off _ ha => ?_, fun cs2 hc2 => ?_⟩
  · by_cases e : b = h.b
    · subst e; exact ⟨_, heap_setCell_same w _ _ cs T v hc⟩
    · exact ⟨cs2, (Below.heap_setCell _ _ _ _ e).trans hc2⟩
  · refine World.cell?_setCell_other _ _ _ _ ?_
    intro e
    injection e with e1 e2
    rcases ha h (List.mem_singleton.2 rfl) e1 with h' | h' <;> omega
  · exact (Below.heap_setCell _ _ _ _ (fun e => hne e.symm)).trans hc2
theorem own_touch {T e : TypeId} {h : Hole} {w : World} {base size n : Nat} {v : Value} {xs : List Value} (ho : w.ownsRow base e size v n xs) (hT : ∃ cs, w.heap[h.b]? = some (Obj.cells cs T)) (hne : e ≠ T) (off : Nat) (u : Value) : (w.setCell ⟨h.b, off, none⟩ u).ownsRow base e size v n xs := by
  obtain ⟨cs, hc⟩ := hT
  refine ho.kept (row := some h.b) ⟨rfl, rfl, rfl, by simp [World.setCell], fun k _ hk => Below.heap_setCell _ _ _ k (fun e => hk (by rw [e]))⟩ (.inr fun e => ?_)
  exact row_not ho hne _ e cs hc
theorem holes_at {T : TypeId} {rt B c : Nat} {w : World} (hB : B ≤ c) (hT : Go.Proofs.Ytglmhdlkhnlkiaa.isT T rt w c) (f : Fo) (off : Nat) (hc : ∀ j u, (f.top.flatMap trC)[j]? = some u → w.cell? ⟨c, off + j, none⟩ = some u) (hL : TyL B w f) : ∀ h ∈ holesOf c off f, HoleAt T rt B w h := by
  induction f generalizing off with
  | nil => intro h hh; simp [holesOf] at hh
  | cons k n u ps r _ ih =>
    intro h hh
    simp only [holesOf, List.mem_cons] at hh
    simp only [Fo.top, List.flatMap_cons, trC, List.cons_append, List.nil_append] at hc
    rcases hh with rfl | hh
    · exact ⟨hB, hT, hc 0 _ rfl, hc 1 _ rfl, hc 2 _ rfl, hL.1⟩
    · refine ih (off + 3) (fun j x hx => ?_) hL.2 h hh
      rw [Nat.add_assoc, Nat.add_comm 3 j]
      exact hc (j + 3) x (by simpa using hx)
/-- A round, put together. -/
theorem ch_step {num : Int → Int} {T P : TypeId} {w : World} {rt rb : Nat} {k n : Int} {ps : Fo} {wr w5 : World} {Hq : List Hole} {h : Hole} {t5 : Value} {c m : Nat} {u2 : Sl}
    (hat : ∀ x ∈ Hq ++ [h], HoleAt T rt w.heap.size wr x) (hap : (Hq ++ [h]).Pairwise Apart) (hwd : Wand num T rt w.heap.size rb k n ps wr (Hq ++ [h])) (hb : Below w.heap.size w wr) (hrt : wr.heap[rt]? = some (Obj.cells rt0 T)) (hrt2 : w.heap.size ≤ rt) (hrb : Go.Proofs.Ytglmhdlkhnlkiaa.isT T rt wr rb)
    (hsm : left_ (Hq ++ [h]) ≤ 1000000) (t : Tch T rt w.heap.size h wr w5) (hm : h.ps.len = m) (hc : wr.heap.size ≤ c)
    (c0 : w5.cell? ⟨h.b, h.off, none⟩ = some (.int .i64 h.k)) (c1 : w5.cell? ⟨h.b, h.off + 1, none⟩ = some (.int .i64 (nm num h.k h.n))) (c2 : w5.cell? ⟨h.b, h.off + 2, none⟩ = some (slv u2))
    (hu : (m = 0 ∧ ∃ A cp, u2 = (A, 0, cp)) ∨ (0 < m ∧ (∃ cs, w5.heap[c]? = some (Obj.cells cs T)) ∧ (∀ j u, (h.ps.top.flatMap trC)[j]? = some u → w5.cell? ⟨c, j, none⟩ = some u) ∧ ∃ cp, u2 = (some ⟨c, 0, none⟩, m, cp) ∧ m ≤ cp ∧ cp ≤ maxLen))
    (hown : w5.ownsRow w.heap.size P 1 t5 (Hq.length + m) (ptrs Hq ++ ptrs (holesOf c 0 h.ps))) : ChInv num T P w rt rb k n ps t5 w5 (left_ Hq + h.ps.size) := by
  subst hm
  obtain ⟨hbB, hT, d0, d1, d2, hv⟩ := hat h (List.mem_append_right _ (List.mem_singleton.2 rfl))
  have hrl : rt < wr.heap.size := (Array.getElem?_eq_some_iff.1 hrt).1
  have hpa : ∀ x ∈ Hq, Apart x h := by
    intro x hx
    exact (List.pairwise_append.1 hap).2.2 x hx h (List.mem_singleton.2 rfl)
  have hlt : ∀ x ∈ Hq, x.b < wr.heap.size := fun x hx => (hat x (List.mem_append_left _ hx)).2.1.lt
  refine ⟨Hq ++ holesOf c 0 h.ps, by rw [left_app, left_holes], ?_, by rw [List.length_append, holesOf_len, ptrs_app]; exact hown, ?_, ?_, ?_, hb.trans t.below, t.rt _ hrt, hrt2, t.kept _ hrb⟩
  · rw [left_app] at hsm
    simp only [left_, List.map_cons, List.map_nil, List.sum_cons, List.sum_nil] at hsm ⊢
    omega
  · intro x hx
    rcases List.mem_append.1 hx with hx | hx
    · obtain ⟨xB, xT, x0, x1, x2, xv⟩ := hat x (List.mem_append_left _ hx)
      have ha : ∀ j, j < 3 → Aside [h] x.b (x.off + j) := by
        intro j hj y hy hyb
        have hyh : y = h := by simpa using hy
        rw [hyh] at hyb ⊢
        rcases hpa x hx hyb.symm with h' | h'
        · exact .inl (by omega)
        · exact .inr (by omega)
      exact ⟨xB, t.kept _ xT, (t.cell _ _ xT (ha 0 (by omega))).trans x0, (t.cell _ _ xT (ha 1 (by omega))).trans x1, (t.cell _ _ xT (ha 2 (by omega))).trans x2, xv.below t.below⟩
    · rcases hu with ⟨h0, _⟩ | ⟨_, hcT, hcc, _⟩
      · exfalso
        have := holesOf_len c 0 h.ps
        rw [h0] at this
        rw [List.eq_nil_of_length_eq_zero this] at hx
        cases hx
      · exact holes_at (Nat.le_trans hb.size hc) ⟨by omega, hcT⟩ h.ps 0 (fun j u hj => by rw [Nat.zero_add]; exact hcc j u hj) (hv.list.below t.below) x hx
  · refine List.pairwise_append.2 ⟨(List.pairwise_append.1 hap).1, holesOf_apart _ _ _, fun x hx y hy e => ?_⟩
    have := hlt x hx
    have := (holesOf_b hy).1
    omega
  · refine hwd.step hpa hbB hT t.below.size (fun b off _ hbT => ⟨t.kept b hbT, fun ha => t.cell b off hbT ha⟩) c0 c1 c2 hc ?_
    rcases hu with h0 | ⟨hp, ⟨cs, hcs⟩, _, cp, e, h1, h2⟩
    · exact .inl h0
    · exact .inr ⟨hp, (Array.getElem?_eq_some_iff.1 hcs).1, cp, e, h1, h2⟩
theorem ptrs_take (c : Nat) (f : Fo) (off j : Nat) (hj : j < f.len) : ptrs ((holesOf c off f).take (j + 1)) = ptrs ((holesOf c off f).take j) ++ [.pointer (some ⟨c, off + j * 3, none⟩)] := by
  induction f generalizing off j with
  | nil => simp [Fo.len] at hj
  | cons k n u ps r _ ih =>
    cases j with
    | zero => simp [holesOf, ptrs]
    | succ j =>
      have := ih (off + 3) j (by simp [Fo.len] at hj; omega)
      simp only [holesOf, List.take_succ_cons, ptrs, List.map_cons, List.cons_append] at this ⊢
      rw [this, show off + 3 + j * 3 = off + (j + 1) * 3 by omega]
/-- A list of types in new memory: it hangs on blocks of types from B on alone. -/
def FreshT (T : TypeId) (B : Nat) (w : World) (num : Int → Int) (ps : Fo) (u : Sl) : Prop :=
  ∀ W : World, w.heap.size ≤ W.heap.size → (∀ (b : Nat) (cs : Array Value), B ≤ b → w.heap[b]? = some (Obj.cells cs T) → W.heap[b]? = some (Obj.cells cs T)) → ∃ g, Img num ps g ∧ TyV W.heap.size W g (slv u)
theorem FreshT.now {T : TypeId} {B : Nat} {w : World} {num : Int → Int} {ps : Fo} {u : Sl} (h : FreshT T B w num ps u) : ∃ g, Img num ps g ∧ TyV w.heap.size w g (slv u) := h w (Nat.le_refl _) fun _ _ _ h => h
theorem FreshT.mono {T : TypeId} {B C : Nat} {w : World} {num : Int → Int} {ps : Fo} {u : Sl} (h : FreshT T B w num ps u) (hC : C ≤ B) : FreshT T C w num ps u := fun W hs hc => h W hs fun b cs hb hl => hc b cs (Nat.le_trans hC hb) hl
theorem FreshT.to {T : TypeId} {B : Nat} {w w' : World} {num : Int → Int} {ps : Fo} {u : Sl} (h : FreshT T B w num ps u) (hs : w.heap.size ≤ w'.heap.size) (hc : ∀ (b : Nat) (cs : Array Value), B ≤ b → w.heap[b]? = some (Obj.cells cs T) → w'.heap[b]? = some (Obj.cells cs T)) : FreshT T B w' num ps u :=
  fun W hs' hc' => h W (Nat.le_trans hs hs') fun b cs hb hl => hc' b cs hb (hc b cs hb hl)
theorem FreshT.below {T : TypeId} {B : Nat} {w w' : World} {num : Int → Int} {ps : Fo} {u : Sl} (h : FreshT T B w num ps u) (hb : Below w.heap.size w w') : FreshT T B w' num ps u :=
  h.to hb.size fun b _ _ hl => (hb.block b (Array.getElem?_eq_some_iff.1 hl).1).trans hl
abbrev idn : Int → Int := fun n => n
theorem nm_id (k n : Int) : nm idn k n = n := by simp [nm]
end Go.Proofs.Ytglmhdlkhnlkiaa
