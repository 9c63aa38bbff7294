/- Texts of one proof, one behind the other. -/
import Derived.Test.YtfoangiphbmipaaMgTermOrder8
import Derived.Test.YtfoangiphbmipaaMgTermOrder9
import Derived.Test.YtfoangiphbmipaaMgTermOrder6
import Derived.Test.YtfoangiphbmipaaMgTermOrder2
/- term.Copy: what lies in memory between the rounds. -/
namespace Go.Proofs.Ytfoangiphbmipaa
open Go.RowKit

theorem flat9 (L : List Tm) (i j : Nat) (hj : j < 9) : (L.flatMap fun t => ndC t.1)[i * 9 + j]? = (L[i]?).bind fun t => (ndC t.1)[j]? := by
  induction L generalizing i with
  | nil => simp
  | cons t L ih =>
    cases i with
    | zero => rw [List.flatMap_cons, Nat.zero_mul, Nat.zero_add, List.getElem?_append_left (by rw [ndC_len]; omega)]; rfl
    | succ i =>
      rw [List.flatMap_cons, List.getElem?_append_right (by rw [ndC_len]; omega), ndC_len, show (i + 1) * 9 + j - 9 = i * 9 + j by omega, ih i]
      simp
theorem TeV.rd9 {B : Nat} {w : World} {f : Te} {v : Value} (hB : B ≤ w.heap.size) (h : TeV B w f v) : Rd w 9 v f.len (f.top.flatMap fun t => ndC t.1) := by
  refine ⟨by rw [ndCs_len, Te.top_len], ?_⟩
  cases f with
  | nil =>
    obtain ⟨A, c, rfl⟩ := teV_nil.1 h
    exact .inl ⟨rfl, A, c, rfl⟩
  | cons x ps r =>
    obtain ⟨b, off, cap, rfl, h1, h2, hb, hc⟩ := teV_cons.1 h
    refine .inr ⟨b, off, cap, rfl, h1, h2, by omega, fun j u hj => ?_⟩
    obtain ⟨i, q, rfl, hq⟩ : ∃ i q, j = i * 9 + q ∧ q < 9 := ⟨j / 9, j % 9, by omega, by omega⟩
    rw [flat9 _ _ _ hq] at hj
    obtain ⟨t, ht, hu⟩ := Option.bind_eq_some_iff.1 hj
    obtain ⟨hi, rfl⟩ := List.getElem?_eq_some_iff.1 ht
    have := NdAt.cells (teC_rd hc i hi) q u hu
    rwa [← Nat.add_assoc]
/-- A hole, in a world. -/
def EHoleAt (T : TypeId) (rt B : Nat) (w : World) (h : EHole) : Prop := B ≤ h.b ∧ isT T rt w h.b ∧ NdAt w h.b h.off h.x ∧ TmL B w (h.x, h.ps) ∧ h.x.ty.size < 1000000 ∧ h.ps.tyb
def eptrs (Hs : List EHole) : List Value := Hs.map fun h => .pointer (some ⟨h.b, h.off, none⟩)
theorem eptrs_len (Hs : List EHole) : (eptrs Hs).length = Hs.length := by simp [eptrs]
theorem eptrs_app (a b : List EHole) : eptrs (a ++ b) = eptrs a ++ eptrs b := by simp [eptrs]
/-- A term's cells, new. -/
def ert0 : Array Value := #[.int .i64 0, .string ⟨#[]⟩, .int .i64 0, .int .i64 0, .int .i64 0, .slice none 0 0, .slice none 0 0, .int .i64 0, .int .i64 0]
/-- Between two rounds. -/
def ECh (T29 T24 P : TypeId) (w0 : World) (rt rb : Nat) (x : Nd) (ps : Te) (t : Value) (w : World) (s : Nat) : Prop :=
  ∃ Hs : List EHole, eleft Hs = s ∧ s ≤ 1000000 ∧ w.ownsRow w0.heap.size P 1 t Hs.length (eptrs Hs) ∧ (∀ h ∈ Hs, EHoleAt T29 rt w0.heap.size w h) ∧ Hs.Pairwise EApart ∧
    EWand T29 T24 rt w0.heap.size rb x ps w Hs ∧ Below w0.heap.size w0 w ∧ w.heap[rt]? = some (Obj.cells ert0 T29) ∧ w0.heap.size ≤ rt ∧ isT T29 rt w rb
/-- What a step touches: a hole's cells alone (and what is no block of terms or types). -/
structure ETch (T29 T24 : TypeId) (rt B : Nat) (h : EHole) (w w' : World) : Prop where
  below : Below B w w'
  kept : ∀ b, Go.Proofs.Ytfoangiphbmipaa.isT T29 rt w b → Go.Proofs.Ytfoangiphbmipaa.isT T29 rt w' b
  cell : ∀ b off, Go.Proofs.Ytfoangiphbmipaa.isT T29 rt w b → EAside [h] b off → w'.cell? ⟨b, off, none⟩ = w.cell? ⟨b, off, none⟩
  rt : ∀ cs, w.heap[rt]? = some (Obj.cells cs T29) → w'.heap[rt]? = some (Obj.cells cs T29)
  ty : ∀ (b : Nat) (cs : Array Value), w.heap[b]? = some (Obj.cells cs T24) → w'.heap[b]? = some (Obj.cells cs T24)
theorem ETch.refl (T29 T24 : TypeId) (rt B : Nat) (h : EHole) (w : World) : ETch T29 T24 rt B h w w := ⟨Below.refl _ _, fun _ h => h, fun _ _ _ _ => rfl, fun _ h => h, fun _ _ h => h⟩
theorem ETch.trans {T29 T24 : TypeId} {rt B : Nat} {h : EHole} {a b c : World} (x : ETch T29 T24 rt B h a b) (y : ETch T29 T24 rt B h b c) : ETch T29 T24 rt B h a c :=
  ⟨x.below.trans y.below, fun i hi => y.kept i (x.kept i hi), fun i off hi ha => (y.cell i off (x.kept i hi) ha).trans (x.cell i off hi ha), fun cs h => y.rt cs (x.rt cs h), fun i cs hi => y.ty i cs (x.ty i cs hi)⟩
theorem ETch.keep {T29 T24 : TypeId} {rt B : Nat} {h : EHole} {a b : World} (k : KeepT T29 a b) (k2 : KeepT T24 a b) (hb : Below B a b) : ETch T29 T24 rt B h a b :=
  ⟨hb, fun _ hi => k.isT hi, fun _ off hi _ => k.cell hi off, fun _ hc => k.2 _ _ hc, k2.2⟩
theorem KeepT.of_below {T : TypeId} {a b : World} (h : Below a.heap.size a b) : KeepT T a b := ⟨h.size, fun i _ hi => (h.block i (Array.getElem?_eq_some_iff.1 hi).1).trans hi⟩
theorem ETch.of_below {T29 T24 : TypeId} {rt B : Nat} {h : EHole} {a b : World} (hb : Below a.heap.size a b) (hB : B ≤ a.heap.size) : ETch T29 T24 rt B h a b := ETch.keep (KeepT.of_below hb) (KeepT.of_below hb) (hb.mono hB)
theorem ETch.set {T29 T24 : TypeId} {rt B : Nat} {h : EHole} {w : World} (hne : T29 ≠ T24) (j : Nat) (hj : j < 9) (hT : Go.Proofs.Ytfoangiphbmipaa.isT T29 rt w h.b) (hB : B ≤ h.b) (v : Value) : ETch T29 T24 rt B h w (w.setCell ⟨h.b, h.off + j, none⟩ v) := by
  obtain ⟨hner, cs, hc⟩ := hT
  refine ⟨(Below.refl B w).setCell (p := ⟨h.b, h.off + j, none⟩) hB v, fun b ⟨hb, cs2, hc2⟩ => ⟨hb, ?_⟩, fun b off _ ha => ?_, fun cs2 hc2 => ?_, fun b cs2 hc2 => ?_⟩
  · by_cases e : b = h.b
    · subst e; exact ⟨_, heap_setCell_same w _ _ cs T29 v hc⟩
    · exact ⟨cs2, (Below.heap_setCell _ _ _ _ e).trans hc2⟩
  · refine World.cell?_setCell_other _ _ _ _ ?_
    intro e
    injection e with e1 e2
    rcases ha h (List.mem_singleton.2 rfl) e1 with h' | h' <;> omega
  · exact (Below.heap_setCell _ _ _ _ (fun e => hner e.symm)).trans hc2
  · refine (Below.heap_setCell _ _ _ _ (fun e => ?_)).trans hc2
    simp only at e
    rw [e, hc] at hc2
    injection hc2 with hc2
    injection hc2 with _ h2 _
    exact hne h2
theorem eown_touch {T e : TypeId} {w : World} {b base size n : Nat} {v : Value} {xs : List Value} (ho : w.ownsRow base e size v n xs) (hT : ∃ cs, w.heap[b]? = some (Obj.cells cs T)) (hne : e ≠ T) (off : Nat) (u : Value) : (w.setCell ⟨b, off, none⟩ u).ownsRow base e size v n xs := by
  obtain ⟨cs, hc⟩ := hT
  refine ho.kept (row := some b) ⟨rfl, rfl, rfl, by simp [World.setCell], fun k _ hk => Below.heap_setCell _ _ _ k (fun e => hk (by rw [e]))⟩ (.inr fun e => ?_)
  exact row_not ho hne _ e cs hc
theorem eholes_at {T : TypeId} {rt B c : Nat} {w : World} (hB : B ≤ c) (hT : Go.Proofs.Ytfoangiphbmipaa.isT T rt w c) (f : Te) (off : Nat) (hc : ∀ j u, (f.top.flatMap fun t => ndC t.1)[j]? = some u → w.cell? ⟨c, off + j, none⟩ = some u) (hL : TeL B w f) (hy : f.tyb) : ∀ h ∈ eholesOf c off f, EHoleAt T rt B w h := by
  induction f generalizing off with
  | nil => intro h hh; simp [eholesOf] at hh
  | cons x ps r _ ih =>
    intro h hh
    simp only [eholesOf, List.mem_cons] at hh
    simp only [Te.top, List.flatMap_cons] at hc
    rcases hh with rfl | hh
    · refine ⟨hB, hT, NdAt.of_cells fun j u hu => hc j u ?_, hL.1, hy.1, hy.2.1⟩
      rw [List.getElem?_append_left (List.getElem?_eq_some_iff.1 hu).1]
      exact hu
    · refine ih (off + 9) (fun j y hy => ?_) hL.2 hy.2.2 h hh
      rw [Nat.add_assoc, Nat.add_comm 9 j]
      refine hc (j + 9) y ?_
      rw [List.getElem?_append_right (by rw [ndC_len]; omega), ndC_len, Nat.add_sub_cancel]
      exact hy
/-- A round, put together. -/
theorem ech_step {T29 T24 P : TypeId} {w : World} {rt rb : Nat} {x : Nd} {ps : Te} {wr w5 : World} {Hq : List EHole} {h : EHole} {t5 : Value} {c m : Nat} {tu2 u2 : Sl}
    (hat : ∀ x ∈ Hq ++ [h], EHoleAt T29 rt w.heap.size wr x) (hap : (Hq ++ [h]).Pairwise EApart) (hwd : EWand T29 T24 rt w.heap.size rb x ps wr (Hq ++ [h])) (hb : Below w.heap.size w wr) (hrt : wr.heap[rt]? = some (Obj.cells ert0 T29)) (hrt2 : w.heap.size ≤ rt) (hrb : Go.Proofs.Ytfoangiphbmipaa.isT T29 rt wr rb)
    (hsm : eleft (Hq ++ [h]) ≤ 1000000) (t : ETch T29 T24 rt w.heap.size h wr w5) (hm : h.ps.len = m) (hc : wr.heap.size ≤ c)
    (hat2 : NdAt w5 h.b h.off { h.x with tu := tu2, u := u2 }) (hty : FreshT T24 w.heap.size w5 idn h.x.ty tu2)
    (hu : (m = 0 ∧ ∃ A cp, u2 = (A, 0, cp)) ∨ (0 < m ∧ (∃ cs, w5.heap[c]? = some (Obj.cells cs T29)) ∧ (∀ j u, (h.ps.top.flatMap fun t => ndC t.1)[j]? = some u → w5.cell? ⟨c, j, none⟩ = some u) ∧ ∃ cp, u2 = (some ⟨c, 0, none⟩, m, cp) ∧ m ≤ cp ∧ cp ≤ maxLen))
    (hown : w5.ownsRow w.heap.size P 1 t5 (Hq.length + m) (eptrs Hq ++ eptrs (eholesOf c 0 h.ps))) : ECh T29 T24 P w rt rb x ps t5 w5 (eleft Hq + h.ps.size) := by
  subst hm
  obtain ⟨hbB, hT, _, hv, _, hty3⟩ := hat h (List.mem_append_right _ (List.mem_singleton.2 rfl))
  have hrl : rt < wr.heap.size := (Array.getElem?_eq_some_iff.1 hrt).1
  have hpa : ∀ x ∈ Hq, EApart x h := by
    intro x hx
    exact (List.pairwise_append.1 hap).2.2 x hx h (List.mem_singleton.2 rfl)
  have hlt : ∀ x ∈ Hq, x.b < wr.heap.size := fun x hx => (hat x (List.mem_append_left _ hx)).2.1.lt
  refine ⟨Hq ++ eholesOf c 0 h.ps, by rw [eleft_app, eleft_holes], ?_, by rw [List.length_append, eholesOf_len, eptrs_app]; exact hown, ?_, ?_, ?_, hb.trans t.below, t.rt _ hrt, hrt2, t.kept _ hrb⟩
  · rw [eleft_app] at hsm
    simp only [eleft, List.map_cons, List.map_nil, List.sum_cons, List.sum_nil] at hsm ⊢
    omega
  · intro x hx
    rcases List.mem_append.1 hx with hx | hx
    · obtain ⟨xB, xT, xn, xv, xt⟩ := hat x (List.mem_append_left _ hx)
      have ha : ∀ j, j < 9 → EAside [h] x.b (x.off + j) := by
        intro j hj y hy hyb
        have hyh : y = h := by simpa using hy
        rw [hyh] at hyb ⊢
        rcases hpa x hx hyb.symm with h' | h'
        · exact .inl (by omega)
        · exact .inr (by omega)
      exact ⟨xB, t.kept _ xT, xn.to fun j hj => t.cell _ _ xT (ha j hj), xv.below t.below, xt⟩
    · rcases hu with ⟨h0, _⟩ | ⟨_, hcT, hcc, _⟩
      · exfalso
        have := eholesOf_len c 0 h.ps
        rw [h0] at this
        rw [List.eq_nil_of_length_eq_zero this] at hx
        cases hx
      · exact eholes_at (Nat.le_trans hb.size hc) ⟨by omega, hcT⟩ h.ps 0 (fun j u hj => by rw [Nat.zero_add]; exact hcc j u hj) (hv.2.list.below t.below) hty3 x hx
  · refine List.pairwise_append.2 ⟨(List.pairwise_append.1 hap).1, eholesOf_apart _ _ _, fun x hx y hy e => ?_⟩
    have := hlt x hx
    have := (eholesOf_b hy).1
    omega
  · refine hwd.step hpa hbB hT t.below.size (fun b off _ hbT => ⟨t.kept b hbT, fun ha => t.cell b off hbT ha⟩) (fun b cs _ hl => t.ty b cs hl) hat2 hty hc ?_
    rcases hu with h0 | ⟨hp, ⟨cs, hcs⟩, _, cp, e, h1, h2⟩
    · exact .inl h0
    · exact .inr ⟨hp, (Array.getElem?_eq_some_iff.1 hcs).1, cp, e, h1, h2⟩
theorem eptrs_take (c : Nat) (f : Te) (off j : Nat) (hj : j < f.len) : eptrs ((eholesOf c off f).take (j + 1)) = eptrs ((eholesOf c off f).take j) ++ [.pointer (some ⟨c, off + j * 9, none⟩)] := by
  induction f generalizing off j with
  | nil => simp [Te.len] at hj
  | cons x ps r _ ih =>
    cases j with
    | zero => simp [eholesOf, eptrs]
    | succ j =>
      have := ih (off + 9) j (by simp [Te.len] at hj; omega)
      simp only [eholesOf, List.take_succ_cons, eptrs, List.map_cons, List.cons_append] at this ⊢
      rw [this, show off + 9 + j * 9 = off + (j + 1) * 9 by omega]
/-- A term's copy: what its type and its parts hang on lies in blocks from B on, below M. -/
def FreshE (B : Nat) (w : World) (x : Nd) (ps : Te) (tu u : Sl) : Prop :=
  ∀ W : World, w.heap.size ≤ W.heap.size → (∀ (b : Nat) (o : Obj), B ≤ b → w.heap[b]? = some o → o.isCells = true → W.heap[b]? = some o) → ∃ ty g, Img idn x.ty ty ∧ TImg ps g ∧ TyV W.heap.size W ty (slv tu) ∧ TeV W.heap.size W g (slv u)
theorem FreshE.now {B : Nat} {w : World} {x : Nd} {ps : Te} {tu u : Sl} (h : FreshE B w x ps tu u) : ∃ ty g, Img idn x.ty ty ∧ TImg ps g ∧ TyV w.heap.size w ty (slv tu) ∧ TeV w.heap.size w g (slv u) := h w (Nat.le_refl _) fun _ _ _ h _ => h
end Go.Proofs.Ytfoangiphbmipaa
/- A row of one's own stands behind what lays new blocks alone. -/
namespace Go.Proofs.Ytfoangiphbmipaa
open Go.RowKit
theorem own_below {w w' : World} {base : Nat} {e : TypeId} {size : Nat} {v : Value} {n : Nat} {xs : List Value} (h : w.ownsRow base e size v n xs) (hb : Below w.heap.size w w') : w'.ownsRow base e size v n xs := by
  refine ⟨h.1, ?_⟩
  rcases h.2 with h0 | ⟨g, cap, cur, h0, hbg, hg, hr⟩
  · exact .inl h0
  · exact .inr ⟨g, cap, cur, h0, hbg, (hb.block g (Array.getElem?_eq_some_iff.1 hg).1).trans hg, hr⟩
end Go.Proofs.Ytfoangiphbmipaa
