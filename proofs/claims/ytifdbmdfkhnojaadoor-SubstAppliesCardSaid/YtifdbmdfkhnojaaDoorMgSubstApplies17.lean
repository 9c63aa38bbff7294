/- Texts of one proof, one behind the other. -/
import Derived.Test.YtifdbmdfkhnojaaDoorMgSubstApplies12
import Derived.Test.YtifdbmdfkhnojaaDoorMgSubstApplies7
import Derived.Test.YtifdbmdfkhnojaaDoorMgSubstApplies4
/- What a substitution makes of a type, in place: holes, and what they become. -/
namespace Go.Proofs.YtifdbmdfkhnojaaDoor
open Go.RowKit Go.Shelf
/-- What a hole becomes. -/
def tgt (s : Sg) (h : Hole) : Int × Int × Fo := Fo.sub1 s h.k h.n h.ps
/-- A hole that is done. -/
def DoneAt (s : Sg) (W : World) (h : Hole) : Prop := ∃ g, g.pure = (tgt s h).2.2 ∧ TyAt W h.b h.off (tgt s h).1 (tgt s h).2.1 g
theorem holes_readS {s : Sg} {W : World} {c : Nat} (f : Fo) (off : Nat) (h : ∀ h ∈ holesOf c off f, DoneAt s W h) : ∃ G, G.pure = f.sub s ∧ TyC W.heap.size W G c off := by
  induction f generalizing off with
  | nil => exact ⟨.nil, rfl, tyC_nil⟩
  | cons k n u ps r _ ih =>
    obtain ⟨G, hG, hC⟩ := ih (off + 3) (fun x hx => h x (by simp only [holesOf]; exact List.mem_cons_of_mem _ hx))
    obtain ⟨g, hg, c0, c1, u2, c2, hv⟩ := h ⟨c, off, k, n, u, ps⟩ (by simp only [holesOf]; exact List.mem_cons_self)
    refine ⟨.cons _ _ u2 g G, ?_, tyC_cons.2 ⟨c0, c1, c2, hv, hC⟩⟩
    rw [Fo.sub_cons, Fo.pure, hg, hG]
    rfl
/-- Once the holes are done, the whole is. -/
def WandS (s : Sg) (T : TypeId) (rt B rb : Nat) (X : Int × Int × Fo) (w : World) (Hs : List Hole) : Prop :=
  ∀ W : World, w.heap.size ≤ W.heap.size → (∀ h ∈ Hs, DoneAt s W h) →
    (∀ b, B ≤ b → isT T rt w b → isT T rt W b ∧ ∀ off, Aside Hs b off → W.cell? ⟨b, off, none⟩ = w.cell? ⟨b, off, none⟩) → ∃ g, g.pure = X.2.2 ∧ TyAt W rb 0 X.1 X.2.1 g
/-- Cells that are the same are the same block. -/
theorem block_same {w W : World} {b : Nat} {cs cs' : Array Value} {T T' : TypeId} (h : w.heap[b]? = some (Obj.cells cs T)) (h' : W.heap[b]? = some (Obj.cells cs' T')) (hc : ∀ off, W.cell? ⟨b, off, none⟩ = w.cell? ⟨b, off, none⟩) : cs' = cs := by
  have key : ∀ (v : World) (xs : Array Value) (U : TypeId), v.heap[b]? = some (Obj.cells xs U) → ∀ off, v.cell? ⟨b, off, none⟩ = xs[off]? := by
    intro v xs U hv off
    simp [World.cell?, hv]
  apply Array.ext_getElem?
  intro i
  rw [← key W cs' T' h' i, ← key w cs T h i, hc i]
/-- A list of types in new memory, told without places. -/
def FreshP (T : TypeId) (B : Nat) (w : World) (P : Fo) (u : Sl) : Prop :=
  ∀ W : World, w.heap.size ≤ W.heap.size → (∀ (b : Nat) (cs : Array Value), B ≤ b → w.heap[b]? = some (Obj.cells cs T) → W.heap[b]? = some (Obj.cells cs T)) → ∃ g, g.pure = P ∧ TyV W.heap.size W g (slv u)
theorem FreshT.p {T : TypeId} {B : Nat} {w : World} {ps : Fo} {u : Sl} (h : FreshT T B w idn ps u) : FreshP T B w ps.pure u := fun W hs hc => by
  obtain ⟨g, hg, hv⟩ := h W hs hc
  exact ⟨g, (img_iff _ _).1 hg, hv⟩
theorem FreshP.now {T : TypeId} {B : Nat} {w : World} {P : Fo} {u : Sl} (h : FreshP T B w P u) : ∃ g, g.pure = P ∧ TyV w.heap.size w g (slv u) := h w (Nat.le_refl _) fun _ _ _ h => h
theorem FreshP.mono {T : TypeId} {B C : Nat} {w : World} {P : Fo} {u : Sl} (h : FreshP T B w P u) (hC : C ≤ B) : FreshP T C w P u := fun W hs hc => h W hs fun b cs hb hl => hc b cs (Nat.le_trans hC hb) hl
theorem FreshP.to {T : TypeId} {B : Nat} {w w' : World} {P : Fo} {u : Sl} (h : FreshP T B w P u) (hs : w.heap.size ≤ w'.heap.size) (hc : ∀ (b : Nat) (cs : Array Value), B ≤ b → w.heap[b]? = some (Obj.cells cs T) → w'.heap[b]? = some (Obj.cells cs T)) : FreshP T B w' P u :=
  fun W hs' hc' => h W (Nat.le_trans hs hs') fun b cs hb hl => hc' b cs hb (hc b cs hb hl)
theorem FreshP.below {T : TypeId} {B : Nat} {w w' : World} {P : Fo} {u : Sl} (h : FreshP T B w P u) (hb : Below w.heap.size w w') : FreshP T B w' P u :=
  h.to hb.size fun b _ _ hl => (hb.block b (Array.getElem?_eq_some_iff.1 hl).1).trans hl
theorem FreshP.kept {T : TypeId} {B : Nat} {w w' : World} {P : Fo} {u : Sl} (h : FreshP T B w P u) (k : KeepT T w w') : FreshP T B w' P u := h.to k.1 fun b cs _ hl => k.2 b cs hl
/-- A hole whose type has no bind gives way to its parts. -/
theorem WandS.step {s : Sg} {T : TypeId} {rt B rb : Nat} {X : Int × Int × Fo} {w w2 : World} {Hs : List Hole} {h : Hole} (hW : WandS s T rt B rb X w (Hs ++ [h])) (hn : h.k = 1 → s h.n = none)
    (hap : ∀ x ∈ Hs, Apart x h) (hB : B ≤ h.b) (hT : isT T rt w h.b)
    (hs : w.heap.size ≤ w2.heap.size) (hk : ∀ b off, B ≤ b → isT T rt w b → isT T rt w2 b ∧ (Aside [h] b off → w2.cell? ⟨b, off, none⟩ = w.cell? ⟨b, off, none⟩))
    {u2 : Sl} (h0 : w2.cell? ⟨h.b, h.off, none⟩ = some (.int .i64 h.k)) (h1 : w2.cell? ⟨h.b, h.off + 1, none⟩ = some (.int .i64 h.n)) (h2 : w2.cell? ⟨h.b, h.off + 2, none⟩ = some (slv u2))
    {c : Nat} (hc : w.heap.size ≤ c) (hu : (h.ps.len = 0 ∧ ∃ A cp, u2 = (A, 0, cp)) ∨ (0 < h.ps.len ∧ c < w2.heap.size ∧ ∃ cp, u2 = (some ⟨c, 0, none⟩, h.ps.len, cp) ∧ h.ps.len ≤ cp ∧ cp ≤ maxLen)) :
    WandS s T rt B rb X w2 (Hs ++ holesOf c 0 h.ps) := by
  intro W hsz hdone hfr
  have out : ∀ b off, b < w.heap.size → Aside Hs b off → Aside (Hs ++ holesOf c 0 h.ps) b off := by
    intro b off hb ha x hx hxb
    rcases List.mem_append.1 hx with hx | hx
    · exact ha x hx hxb
    · have := (holesOf_b hx).1
      omega
  have inH : ∀ j, j < 3 → Aside Hs h.b (h.off + j) := by
    intro j hj x hx hxb
    rcases hap x hx hxb with h' | h'
    · exact .inr (by omega)
    · exact .inl (by omega)
  have hat : ∀ j, j < 3 → W.cell? ⟨h.b, h.off + j, none⟩ = w2.cell? ⟨h.b, h.off + j, none⟩ := fun j hj => (hfr h.b hB (hk h.b 0 hB hT).1).2 _ (out _ _ hT.lt (inH j hj))
  have et : tgt s h = (h.k, h.n, h.ps.sub s) := Fo.sub1_not hn
  refine hW W (Nat.le_trans hs hsz) ?_ ?_
  · intro x hx
    rcases List.mem_append.1 hx with hx | hx
    · exact hdone x (List.mem_append_left _ hx)
    · have hxh : x = h := by simpa using hx
      rw [hxh]
      obtain ⟨G, hG, hC⟩ := holes_readS h.ps 0 (fun y hy => hdone y (List.mem_append_right _ hy))
      refine ⟨G, by rw [et]; exact hG, by rw [et]; exact (hat 0 (by omega)).trans h0, by rw [et]; exact (hat 1 (by omega)).trans h1, u2, (hat 2 (by omega)).trans h2, ?_⟩
      have hGl : G.len = h.ps.len := by rw [← Fo.pure_len, hG, Fo.sub_len]
      rcases hu with ⟨hz, A, cp, rfl⟩ | ⟨hp, hc2, cp, rfl, hcp, hcm⟩
      · cases G with
        | nil => exact tyV_nil.2 ⟨A, cp, rfl⟩
        | cons => simp only [Fo.len] at hGl; omega
      · cases G with
        | nil => simp only [Fo.len] at hGl; omega
        | cons k' n' u' ps' r' =>
          simp only [Fo.len] at hGl
          exact tyV_cons.2 ⟨c, 0, cp, by rw [← hGl]; rfl, by omega, hcm, by omega, hC⟩
  · intro b hb hbT
    refine ⟨(hfr b hb (hk b 0 hb hbT).1).1, fun off ha => ?_⟩
    have hA1 : Aside Hs b off := fun x hx => ha x (List.mem_append_left _ hx)
    have hA2 : Aside [h] b off := fun x hx => ha x (List.mem_append_right _ hx)
    rw [(hfr b hb (hk b off hb hbT).1).2 off (out b off hbT.lt hA1)]
    exact (hk b off hb hbT).2 hA2
/-- A hole whose type has a bind becomes what was made of that, in new memory. -/
theorem WandS.fill {s : Sg} {T : TypeId} {rt B rb : Nat} {X : Int × Int × Fo} {w wc w2 : World} {Hs : List Hole} {h : Hole} (hW : WandS s T rt B rb X w (Hs ++ [h]))
    (hap : ∀ x ∈ Hs, Apart x h) (hB : B ≤ h.b) (hBw : B ≤ w.heap.size) (hT : isT T rt w h.b) (hHs : ∀ x ∈ Hs, x.b < w.heap.size) (hrt : rt < w.heap.size)
    (hs : w.heap.size ≤ w2.heap.size) (hk : ∀ b off, B ≤ b → isT T rt w b → isT T rt w2 b ∧ (Aside [h] b off → w2.cell? ⟨b, off, none⟩ = w.cell? ⟨b, off, none⟩))
    {x : Int × Int × Fo} (hx : tgt s h = x) {u2 : Sl} (h0 : w2.cell? ⟨h.b, h.off, none⟩ = some (.int .i64 x.1)) (h1 : w2.cell? ⟨h.b, h.off + 1, none⟩ = some (.int .i64 x.2.1)) (h2 : w2.cell? ⟨h.b, h.off + 2, none⟩ = some (slv u2))
    (hsc : wc.heap.size ≤ w2.heap.size) (hF : FreshP T w.heap.size wc x.2.2 u2) (hwc : ∀ (b : Nat) (cs : Array Value), w.heap.size ≤ b → wc.heap[b]? = some (Obj.cells cs T) → w2.heap[b]? = some (Obj.cells cs T)) :
    WandS s T rt B rb X w2 Hs := by
  intro W hsz hdone hfr
  have inH : ∀ j, j < 3 → Aside Hs h.b (h.off + j) := by
    intro j hj x hx hxb
    rcases hap x hx hxb with h' | h'
    · exact .inr (by omega)
    · exact .inl (by omega)
  have hat : ∀ j, j < 3 → W.cell? ⟨h.b, h.off + j, none⟩ = w2.cell? ⟨h.b, h.off + j, none⟩ := fun j hj => (hfr h.b hB (hk h.b 0 hB hT).1).2 _ (inH j hj)
  refine hW W (Nat.le_trans hs hsz) ?_ ?_
  · intro y hy
    rcases List.mem_append.1 hy with hy | hy
    · exact hdone y hy
    · have hxh : y = h := by simpa using hy
      rw [hxh]
      obtain ⟨g, hg, hv⟩ := hF W (Nat.le_trans hsc hsz) fun b cs hb hcs => by
        have h2s := hwc b cs hb hcs
        have hbT : isT T rt w2 b := ⟨by omega, cs, h2s⟩
        obtain ⟨⟨_, cs', hW'⟩, hcell⟩ := hfr b (Nat.le_trans hBw hb) hbT
        have := block_same h2s hW' fun off => hcell off fun z hz hzb => by have := hHs z hz; omega
        rw [hW', this]
      exact ⟨g, by rw [hx]; exact hg, by rw [hx]; exact (hat 0 (by omega)).trans h0, by rw [hx]; exact (hat 1 (by omega)).trans h1, u2, (hat 2 (by omega)).trans h2, hv⟩
  · intro b hb hbT
    refine ⟨(hfr b hb (hk b 0 hb hbT).1).1, fun off ha => ?_⟩
    have hA1 : Aside Hs b off := fun x hx => ha x (List.mem_append_left _ hx)
    have hA2 : Aside [h] b off := fun x hx => ha x (List.mem_append_right _ hx)
    rw [(hfr b hb (hk b off hb hbT).1).2 off hA1]
    exact (hk b off hb hbT).2 hA2
theorem holesOf_wf (c off : Nat) (f : Fo) (hf : f.wf) : ∀ h ∈ holesOf c off f, (Lit.int .i64 h.n).wf = true ∧ h.ps.wf := by
  induction f generalizing off with
  | nil => intro h hh; simp [holesOf] at hh
  | cons k n u ps r _ ih =>
    intro h hh
    simp only [holesOf, List.mem_cons] at hh
    rcases hh with rfl | hh
    · exact ⟨hf.1, hf.2.1⟩
    · exact ih (off + 3) hf.2.2 h hh
/-- A hole whose numbers are such as an int may be. -/
def HoleW (h : Hole) : Prop := (Lit.int .i64 h.n).wf = true ∧ h.ps.wf
/-- Between two rounds. -/
def SbInv (s : Sg) (T P : TypeId) (w0 : World) (rt rb : Nat) (X : Int × Int × Fo) (t : Value) (w : World) (m : Nat) : Prop :=
  ∃ Hs : List Hole, left_ Hs = m ∧ m ≤ 1000000 ∧ w.ownsRow w0.heap.size P 1 t Hs.length (ptrs Hs) ∧ (∀ h ∈ Hs, HoleAt T rt w0.heap.size w h ∧ HoleW h) ∧ Hs.Pairwise Apart ∧
    WandS s T rt w0.heap.size rb X w Hs ∧ Below w0.heap.size w0 w ∧ w.heap[rt]? = some (Obj.cells rt0 T) ∧ w0.heap.size ≤ rt ∧ isT T rt w rb
/-- What a step that touches one hole leaves of the others. -/
theorem hole_kept {T : TypeId} {rt B : Nat} {h x : Hole} {w w' : World} (t : Tch T rt B h w w') (hx : HoleAt T rt B w x) (ha : Apart x h) : HoleAt T rt B w' x := by
  obtain ⟨xB, xT, x0, x1, x2, xv⟩ := hx
  have has : ∀ j, j < 3 → Aside [h] x.b (x.off + j) := by
    intro j hj y hy hyb
    have hyh : y = h := by simpa using hy
    rw [hyh] at hyb ⊢
    rcases ha hyb.symm with h' | h'
    · exact .inl (by omega)
    · exact .inr (by omega)
  exact ⟨xB, t.kept _ xT, (t.cell _ _ xT (has 0 (by omega))).trans x0, (t.cell _ _ xT (has 1 (by omega))).trans x1, (t.cell _ _ xT (has 2 (by omega))).trans x2, xv.below t.below⟩
/-- A round that leaves a type's parts to be done. -/
theorem sb_step {s : Sg} {T P : TypeId} {w : World} {rt rb : Nat} {X : Int × Int × Fo} {wr w5 : World} {Hq : List Hole} {h : Hole} {t5 : Value} {c m : Nat} {u2 : Sl}
    (hat : ∀ x ∈ Hq ++ [h], HoleAt T rt w.heap.size wr x ∧ HoleW x) (hap : (Hq ++ [h]).Pairwise Apart) (hwd : WandS s T rt w.heap.size rb X wr (Hq ++ [h])) (hb : Below w.heap.size w wr) (hrt : wr.heap[rt]? = some (Obj.cells rt0 T)) (hrt2 : w.heap.size ≤ rt) (hrb : Go.Proofs.YtifdbmdfkhnojaaDoor.isT T rt wr rb)
    (hsm : left_ (Hq ++ [h]) ≤ 1000000) (hn : h.k = 1 → s h.n = none) (t : Tch T rt w.heap.size h wr w5) (hm : h.ps.len = m) (hc : wr.heap.size ≤ c)
    (c0 : w5.cell? ⟨h.b, h.off, none⟩ = some (.int .i64 h.k)) (c1 : w5.cell? ⟨h.b, h.off + 1, none⟩ = some (.int .i64 h.n)) (c2 : w5.cell? ⟨h.b, h.off + 2, none⟩ = some (slv u2))
    (hu : (m = 0 ∧ ∃ A cp, u2 = (A, 0, cp)) ∨ (0 < m ∧ (∃ cs, w5.heap[c]? = some (Obj.cells cs T)) ∧ (∀ j u, (h.ps.top.flatMap trC)[j]? = some u → w5.cell? ⟨c, j, none⟩ = some u) ∧ ∃ cp, u2 = (some ⟨c, 0, none⟩, m, cp) ∧ m ≤ cp ∧ cp ≤ maxLen))
    (hown : w5.ownsRow w.heap.size P 1 t5 (Hq.length + m) (ptrs Hq ++ ptrs (holesOf c 0 h.ps))) : SbInv s T P w rt rb X t5 w5 (left_ Hq + h.ps.size) := by
  subst hm
  obtain ⟨⟨hbB, hT, d0, d1, d2, hv⟩, hwn, hwp⟩ := hat h (List.mem_append_right _ (List.mem_singleton.2 rfl))
  have hrl : rt < wr.heap.size := (Array.getElem?_eq_some_iff.1 hrt).1
  have hpa : ∀ x ∈ Hq, Apart x h := fun x hx => (List.pairwise_append.1 hap).2.2 x hx h (List.mem_singleton.2 rfl)
  have hlt : ∀ x ∈ Hq, x.b < wr.heap.size := fun x hx => (hat x (List.mem_append_left _ hx)).1.2.1.lt
  refine ⟨Hq ++ holesOf c 0 h.ps, by rw [left_app, left_holes], ?_, by rw [List.length_append, holesOf_len, ptrs_app]; exact hown, ?_, ?_, ?_, hb.trans t.below, t.rt _ hrt, hrt2, t.kept _ hrb⟩
  · rw [left_app] at hsm
    simp only [left_, List.map_cons, List.map_nil, List.sum_cons, List.sum_nil] at hsm ⊢
    omega
  · intro x hx
    rcases List.mem_append.1 hx with hx | hx
    · have := hat x (List.mem_append_left _ hx)
      exact ⟨hole_kept t this.1 (hpa x hx), this.2⟩
    · refine ⟨?_, holesOf_wf c 0 h.ps hwp x hx⟩
      rcases hu with ⟨h0, _⟩ | ⟨_, hcT, hcc, _⟩
      · exfalso
        have := holesOf_len c 0 h.ps
        rw [h0] at this
        rw [List.eq_nil_of_length_eq_zero this] at hx
        cases hx
      · exact holes_at (Nat.le_trans hb.size hc) ⟨by omega, hcT⟩ h.ps 0 (fun j u hj => by rw [Nat.zero_add]; exact hcc j u hj) (hv.list.below t.below) x hx
  · refine List.pairwise_append.2 ⟨(List.pairwise_append.1 hap).1, holesOf_apart _ _ _, fun x hx y hy e => ?_⟩
    have := hlt x hx
    have := (holesOf_b hy).1
    omega
  · refine hwd.step hn hpa hbB hT t.below.size (fun b off _ hbT => ⟨t.kept b hbT, fun ha => t.cell b off hbT ha⟩) c0 c1 c2 hc ?_
    rcases hu with h0 | ⟨hp, ⟨cs, hcs⟩, _, cp, e, h1, h2⟩
    · exact .inl h0
    · exact .inr ⟨hp, (Array.getElem?_eq_some_iff.1 hcs).1, cp, e, h1, h2⟩
/-- A round that lays what a variable became. -/
theorem sb_fill {s : Sg} {T P : TypeId} {w : World} {rt rb : Nat} {X : Int × Int × Fo} {wr wc w5 : World} {Hq : List Hole} {h : Hole} {t5 : Value} {u2 : Sl} {x : Int × Int × Fo}
    (hat : ∀ x ∈ Hq ++ [h], HoleAt T rt w.heap.size wr x ∧ HoleW x) (hap : (Hq ++ [h]).Pairwise Apart) (hwd : WandS s T rt w.heap.size rb X wr (Hq ++ [h])) (hb : Below w.heap.size w wr) (hrt : wr.heap[rt]? = some (Obj.cells rt0 T)) (hrt2 : w.heap.size ≤ rt) (hrb : Go.Proofs.YtifdbmdfkhnojaaDoor.isT T rt wr rb)
    (hsm : left_ (Hq ++ [h]) ≤ 1000000) (t : Tch T rt w.heap.size h wr w5) (hx : tgt s h = x)
    (c0 : w5.cell? ⟨h.b, h.off, none⟩ = some (.int .i64 x.1)) (c1 : w5.cell? ⟨h.b, h.off + 1, none⟩ = some (.int .i64 x.2.1)) (c2 : w5.cell? ⟨h.b, h.off + 2, none⟩ = some (slv u2))
    (hsc : wc.heap.size ≤ w5.heap.size) (hF : FreshP T wr.heap.size wc x.2.2 u2) (hwc : ∀ (b : Nat) (cs : Array Value), wr.heap.size ≤ b → wc.heap[b]? = some (Obj.cells cs T) → w5.heap[b]? = some (Obj.cells cs T))
    (hown : w5.ownsRow w.heap.size P 1 t5 Hq.length (ptrs Hq)) : SbInv s T P w rt rb X t5 w5 (left_ Hq) := by
  obtain ⟨⟨hbB, hT, d0, d1, d2, hv⟩, hwn, hwp⟩ := hat h (List.mem_append_right _ (List.mem_singleton.2 rfl))
  have hrl : rt < wr.heap.size := (Array.getElem?_eq_some_iff.1 hrt).1
  have hpa : ∀ x ∈ Hq, Apart x h := fun x hx => (List.pairwise_append.1 hap).2.2 x hx h (List.mem_singleton.2 rfl)
  have hlt : ∀ x ∈ Hq, x.b < wr.heap.size := fun x hx => (hat x (List.mem_append_left _ hx)).1.2.1.lt
  refine ⟨Hq, rfl, ?_, hown, ?_, (List.pairwise_append.1 hap).1, ?_, hb.trans t.below, t.rt _ hrt, hrt2, t.kept _ hrb⟩
  · rw [left_app] at hsm
    omega
  · intro x hx
    have := hat x (List.mem_append_left _ hx)
    exact ⟨hole_kept t this.1 (hpa x hx), this.2⟩
  · exact hwd.fill hpa hbB hb.size hT hlt hrl t.below.size (fun b off _ hbT => ⟨t.kept b hbT, fun ha => t.cell b off hbT ha⟩) hx c0 c1 c2 hsc hF hwc
end Go.Proofs.YtifdbmdfkhnojaaDoor
/- types.all's function, where it is known what may come next. -/
namespace Go.Proofs.YtifdbmdfkhnojaaDoor
open Go.RowKit Go.Shelf
attribute [local go_sem] Oper.semAt_some
set_option maxRecDepth 100000 in
set_option maxHeartbeats 2000000 in
theorem all1G (n_ : Nat) (hn : 1 ≤ n_) (l Bs B : Nat) (vl : Value) (f : Fo) (hf : f.size ≤ 1000000) (J Jx : List Tr → World → Prop) (W : World) (hB : B ≤ W.heap.size) 
    (hJ : AbC W.heap.size 25 J)
    (hY : ∀ pre x W, J pre W → (∃ s, pre ++ x :: s = f.pre) → YieldAt Fence.wide (n_ - 1) Tryd.prog l #[trV x] W fun e W' =>
      (e = .returned (.bool true) ∧ J (pre ++ [x]) W' ∧ KpC B W W') ∨ (e = .returned (.bool false) ∧ Jx (pre ++ [x]) W'))
    (hBs : Boxed W Bs 23 vl) (hR : RdX W.heap.size W vl f.top) (hL0 : TyL B W f) (h0 : J [] W) :
    CallsIn Fence.wide n_ Tryd.prog 73 #[.func (.yield l) #[] #[], .pointer (some ⟨Bs, 0, none⟩)] W fun e W' => (∃ v, e = .returned v) ∧
      ((∃ ys : List Tr, ys = f.pre ∧ J ys W') ∨ (∃ pre, (pre ≠ [] ∧ ∃ s, pre ++ s = f.pre) ∧ Jx pre W')) := by
  refine callsIn_of_wp Tryd.func73 rfl trivial ?_ rfl
  simp only [Tryd.ntmps73, List.size_toArray, List.length_cons, List.length_nil, Nat.reduceAdd, Nat.reduceSub, Array.replicate_succ, Array.replicate_zero, List.push_toArray, List.append_toArray, List.nil_append, List.cons_append]
  have e00 : W.cell? ⟨Bs, 0, none⟩ = some vl := hBs.cell
  obtain ⟨A, c, hv, _⟩ := id hR
  have HBS := Lib.hid hBs
  have HV := Lib.hid hv
  clear hBs hv
  have own0 : W.ownsRow W.heap.size 25 3 (.slice none 0 0) 0 [] := ⟨rfl, .inl ⟨rfl, rfl⟩⟩
  gi_wp2_with (refine ⟨trivial, ?_⟩; gi_at_call 74)
  refine (callsIn_wide.2 (backs_any W W.heap.size W.heap.size (.slice none 0 0) vl [] 0 f.top own0 (Nat.le_refl _) (Nat.le_refl _) hR (by rw [Fo.top_len]; exact Nat.le_trans f.len_le_size hf) (by omega))).mono ?_
  rintro e w0 ⟨v0, rfl, hown0, hg0, _⟩
  have hinv : AllInv W B f J v0 w0 f.size := by
    refine ⟨f, [], rfl, ?_, hL0.below ((Below.refl _ _).grown hg0 hB (fun k e => by cases e)), rfl, hJ _ _ _ h0 ⟨_, hg0, fun r e => by cases e⟩, (Below.refl _ _).grown hg0 hB (fun k e => by cases e), hg0.size⟩
    simpa [stk, Fo.top_len] using hown0
  clear hown0 hg0 h0 own0
  gi_wp2
  gi_loopw [3] (fun i wr => ∃ k, AllInv W B f J i wr k) (fun i wr => least (AllInv W B f J i wr))
  case atStart => exact ⟨_, hinv⟩
  case round =>
    obtain ⟨k, hk⟩ := hrel
    obtain ⟨⟨R, pre, hRk, hown, hL, hpre, hJs, hb, hsz⟩, _⟩ := least_of hk
    have HM := Lib.hid hRk
    clear hRk hk
    have HP := Lib.hid hpre
    clear hpre
    cases R with
    | nil =>
      obtain ⟨A1, c1, rfl, _, _⟩ := own_form hown
      dsimp only [Fo.len]
      gi_wp2
      go_end0
      exact ⟨⟨_, rfl⟩, .inl ⟨pre, by simpa [Fo.pre] using HP.out, hJs⟩⟩
    | cons k n u ps r =>
      have hpl : ∃ s, pre ++ (k, n, u) :: s = f.pre := ⟨ps.pre ++ r.pre, HP.out⟩
      have hrs : r.len ≤ 1000000 := by
        have h2 := congrArg List.length HP.out
        rw [List.length_append, Fo.pre_len, Fo.pre_len] at h2
        simp only [Fo.size] at h2
        have := r.len_le_size
        omega
      dsimp only [Fo.len] at hown
      obtain ⟨g, cp, rfl, hg1, hg2⟩ := own_shape hown (by omega)
      rw [stk_cons] at hown
      have hsl := stk_len r
      obtain ⟨hps, hLr⟩ := hL
      obtain ⟨q, hq⟩ : ∃ q, r.len = q := ⟨_, rfl⟩
      rw [hq] at hown hsl hrs ⊢
      have c0 : wr.cell? ⟨g, q * 3, none⟩ = some (.int .i64 k) := by rw [hown.cellAt _ (by omega), List.getElem?_append_right (by omega), hsl]; simp [trC]
      have c1 : wr.cell? ⟨g, q * 3 + 1, none⟩ = some (.int .i64 n) := by rw [hown.cellAt _ (by omega), List.getElem?_append_right (by omega), hsl]; simp [trC]
      have c2 : wr.cell? ⟨g, q * 3 + 2, none⟩ = some (slv u) := by rw [hown.cellAt _ (by omega), List.getElem?_append_right (by omega), hsl]; simp [trC]
      obtain ⟨u1, u2, u3⟩ := u
      dsimp only [slv] at c2
      have HQ := Lib.hid hq
      have HS := Lib.hid hsl
      have HO := Lib.hid hown
      clear hq hsl hown
      obtain ⟨W1, hW1⟩ : ∃ W1, W1 = wr.alloc (.cells #[.int .i64 k, .int .i64 n, .slice u1 u2 u3] 25) := ⟨_, rfl⟩
      have hJ1 : J pre W1 := by rw [hW1]; exact hJ _ _ _ hJs ⟨none, World.grownBy_alloc wr _ none, fun r e => by cases e⟩
      obtain ⟨fn, tmps, assign, body, hy, hR2⟩ := hY pre (k, n, (u1, u2, u3)) W1 hJ1 hpl
      dsimp only [trV, slv] at hy
      rw [hW1] at hy hR2
      have HW1 := Lib.hid hW1
      clear hW1
      gi_wp2
      refine hR2.mono ?_
      rintro e W3 (⟨rfl, hJ3, hk3⟩ | ⟨rfl, hJx3⟩)
      · have hbx : W3.heap[wr.heap.size]? = some (Obj.cells #[.int .i64 k, .int .i64 n, .slice u1 u2 u3] 25) := hk3.kept _ _ (World.alloc_heap_new wr _)
        have x2 : W3.cell? ⟨wr.heap.size, 2, none⟩ = some (.slice u1 u2 u3) := by
          have := cell_of_row W3 wr.heap.size 2 _ _ (0, 0) hbx
          rw [this]; rfl
        have hb3 : Below B W W3 := hb.trans (((Below.refl B wr).alloc (by omega) _).trans hk3.below)
        have hs3 : W.heap.size ≤ W3.heap.size := by have := hk3.below.size; simp at this; omega
        have own3 : W3.ownsRow W.heap.size 25 3 (.slice (some ⟨g, 0, none⟩) q cp) q (stk r) := own_cut (hk3.own (HO.out.alloc _)) q (by omega) HS.out
        have hps3 : TyV B W3 ps (slv (u1, u2, u3)) := hps.below (((Below.refl B wr).alloc (by omega) _).trans hk3.below)
        have hLr3 : TyL B W3 r := hLr.below (((Below.refl B wr).alloc (by omega) _).trans hk3.below)
        have hpn : ps.len ≤ 1000000 := by
          have h2 := congrArg List.length HP.out
          rw [List.length_append, Fo.pre_len, Fo.pre_len] at h2
          simp only [Fo.size] at h2
          have := ps.len_le_size
          omega
        have hcp : q + 1 ≤ cp := by
          obtain ⟨_, _, hv, h1, _⟩ := own_form HO.out
          injection hv with _ _ h3
          omega
        have FB := Lib.hid ((callsIn_wide (n := n_ - 1)).2 (backs_any W3.drew W.heap.size B (.slice (some ⟨g, 0, none⟩) q cp) (.slice u1 u2 u3) (stk r) q ps.top own3.drew hB hs3 (hps3.below (Below.refl B W3).drew).rd (by rw [Fo.top_len]; exact hpn) (by omega)))
        have hz : decide ((q : Int) ≤ (cp : Int)) = true := by simp; omega
        have hz0 : (0 : Int) ≤ (q : Int) := by omega
        have fin : ∀ (v' : Value) (w' : World), w'.ownsRow W.heap.size 25 3 v' (q + ps.top.length) (stk r ++ ps.top.reverse.flatMap trC) → W3.drew.grownBy w' (some g) → AllInv W B f J v' w' (ps.app r).size := by
          intro v' w' hown' hgd
          have hg' : W3.grownBy w' (some g) := ⟨hgd.os, hgd.tape, hgd.output, hgd.size, hgd.block⟩
          obtain ⟨_, cap, cur, hv, _, hgo, _⟩ := own3.2.resolve_left (by rintro ⟨h, _⟩; cases h)
          injection hv with hv _ _
          injection hv with hv
          injection hv with hv
          subst hv
          have hgB : Below B W3 w' := (Below.refl _ _).grown hg' (by omega) (fun k e => by cases e; omega)
          refine ⟨ps.app r, pre ++ [(k, n, (u1, u2, u3))], rfl, ?_, (hps3.list.below hgB).app (hLr3.below hgB), ?_, hJ _ _ _ hJ3 ⟨_, hg', fun r e => by cases e; exact ⟨hg1, _, hgo⟩⟩, hb3.trans hgB, Nat.le_trans hs3 hg'.size⟩
          · rw [stk_app, Fo.len_app, HQ.out, ← Fo.top_len ps, Nat.add_comm]
            exact hown'
          · rw [← HP.out, List.append_assoc, Fo.pre_next]; rfl
        have FN := Lib.hid fin
        have hmix : Tryd.prog.follows Departure.mixedOrders = true := by kernel_rfl
        clear hbx own3 hps3 hLr3 hb3 fin
        gi_wp2
        gi_region_with_o (refine ⟨trivial, ?_⟩; gi_at_call 74; refine FB.out.mono ?_; rintro e w4 ⟨v4, rfl, hown4, hg4, _⟩)
        all_goals
          have hfin := FN.out v4 w4 hown4 hg4
          clear hown4 hg4
          go_simp
          gi_wp2
          go_roundw
          case rel => exact ⟨_, hfin⟩
          case measure =>
            refine Nat.lt_of_le_of_lt (least_of hfin).2 (Nat.lt_of_lt_of_le ?_ (Nat.le_of_eq (HQ.out ▸ HM.out)))
            rw [Fo.size_app]
            simp only [Fo.size]
            omega
      · gi_wp2
        refine bodyPost_ret (results_none rfl _ _ _) rfl ?_
        exact ⟨⟨_, rfl⟩, .inr ⟨_, ⟨by simp, _, by rw [List.append_assoc, ← HP.out]; rfl⟩, hJx3⟩⟩
/-- types.all: the list is boxed, the function that comes has the box. -/
theorem all_seqG (n : Nat) (hn : 1 ≤ n) (Bs B : Nat) (vl : Value) (f : Fo) (hf : f.size ≤ 1000000) (w : World) (hB : B ≤ w.heap.size) (hBs : Boxed w Bs 23 vl) (hR : RdX w.heap.size w vl f.top) (hL : TyL B w f) :
    SeqG n Tryd.prog 73 #[.pointer (some ⟨Bs, 0, none⟩)] 25 (fun x : Tr => #[trV x]) (KpC B) (fun ys => ys = f.pre) (fun pre => pre ≠ [] ∧ ∃ s, pre ++ s = f.pre) (fun pre x => ∃ s, pre ++ x :: s = f.pre) w := by
  intro l J Jx W hW hJ _ hY h0
  exact all1G n hn l Bs B vl f hf J Jx W (Nat.le_trans hB hW.size) hJ hY ((hW.block Bs hBs.lt).trans hBs) ((hR.below hW).mono hW.size) (hL.below (hW.mono hB)) h0
end Go.Proofs.YtifdbmdfkhnojaaDoor
