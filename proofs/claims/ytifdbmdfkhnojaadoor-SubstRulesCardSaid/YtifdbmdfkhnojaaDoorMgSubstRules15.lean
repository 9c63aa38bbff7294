/- Texts of one proof, one behind the other. -/
import Derived.Test.YtifdbmdfkhnojaaDoorMgSubstRules2
import Derived.Test.YtifdbmdfkhnojaaDoorProg
import Derived.ProofKit
import Derived.OpenShut
import Derived.Deep.Slices
import Derived.Test.YtifdbmdfkhnojaaDoorMgSubstRules14
import Derived.Test.YtifdbmdfkhnojaaDoorMgSubstRules8
/- An argument that is a slice of types, opened. -/
namespace Go.Proofs.YtifdbmdfkhnojaaDoor
open Go.RowKit Go.ChangeShapes Go.WideShapes Go.ChangeAt Go.Deep

namespace Fo
/-- Each number is one that an int may be. -/
def wf : Fo → Prop
  | nil => True
  | cons _ n _ ps r => (Lit.int .i64 n).wf = true ∧ ps.wf ∧ r.wf
theorem wf_app {f g : Fo} (h : f.wf) (k : g.wf) : (f.app g).wf := by
  induction f with
  | nil => exact k
  | cons _ _ _ _ r _ ih => exact ⟨h.1, h.2.1, ih h.2.2⟩
end Fo
theorem listOf {α : Type} (P : Nat → α → Prop) (n : Nat) (h : ∀ i, i < n → ∃ t, P i t) : ∃ ts : List α, ts.length = n ∧ ∀ i (hi : i < ts.length), P i ts[i] := by
  induction n with
  | zero => exact ⟨[], rfl, by simp⟩
  | succ n ih =>
    obtain ⟨ts, hl, hP⟩ := ih (fun i hi => h i (by omega))
    obtain ⟨t, ht⟩ := h n (by omega)
    refine ⟨ts ++ [t], by simp [hl], fun i hi => ?_⟩
    rcases Nat.lt_or_ge i ts.length with hlt | hge
    · rw [List.getElem_append_left hlt]; exact hP i hlt
    · have : i = ts.length := by simp at hi; omega
      subst this
      have e : (ts ++ [t])[ts.length] = t := by simp
      rw [e, hl]
      exact ht
def foOf : List (Int × Int × Sl × Fo) → Fo
  | [] => .nil
  | t :: r => .cons t.1 t.2.1 t.2.2.1 t.2.2.2 (foOf r)
theorem foOf_len (ts : List (Int × Int × Sl × Fo)) : (foOf ts).len = ts.length := by
  induction ts with
  | nil => rfl
  | cons t r ih => simp [foOf, Fo.len, ih]
theorem foOf_wf (ts : List (Int × Int × Sl × Fo)) (h : ∀ i (hi : i < ts.length), (Lit.int .i64 ts[i].2.1).wf = true ∧ ts[i].2.2.2.wf) : (foOf ts).wf := by
  induction ts with
  | nil => trivial
  | cons t r ih =>
    have h0 := h 0 (by simp)
    exact ⟨h0.1, h0.2, ih fun i hi => by have := h (i + 1) (by simp; omega); simpa using this⟩
theorem foOf_cells {B : Nat} {w : World} {b : Nat} (ts : List (Int × Int × Sl × Fo)) (off : Nat)
    (h : ∀ i (hi : i < ts.length), w.cell? ⟨b, off + i * 3, none⟩ = some (.int .i64 ts[i].1) ∧ w.cell? ⟨b, off + i * 3 + 1, none⟩ = some (.int .i64 ts[i].2.1) ∧ w.cell? ⟨b, off + i * 3 + 2, none⟩ = some (slv ts[i].2.2.1) ∧ TyV B w ts[i].2.2.2 (slv ts[i].2.2.1)) : TyC B w (foOf ts) b off := by
  induction ts generalizing off with
  | nil => exact tyC_nil
  | cons t r ih =>
    have h0 := h 0 (by simp)
    simp only [Nat.zero_mul, Nat.add_zero, List.getElem_cons_zero] at h0
    refine tyC_cons.2 ⟨h0.1, h0.2.1, h0.2.2.1, h0.2.2.2, ih (off + 3) fun i hi => ?_⟩
    have h1 := h (i + 1) (by simp; omega)
    simp only [List.getElem_cons_succ] at h1
    rw [show off + 3 + i * 3 = off + (i + 1) * 3 by omega]
    exact h1
set_option maxRecDepth 100000 in
theorem types_read {H : Type} {enc : TypeId × Value → H} {W : World} (fuel : Nat) : ∀ (v : Value) (x : DataW H × List MemPlace), DataW.trod enc Tryd.prog W 0 (fun _ => true) true fuel 23 [v] = some x → ∃ (F : Fo) (u : Sl), v = slv u ∧ TyV W.heap.size W F v ∧ F.wf := by
  induction fuel using Nat.strongRecOn with
  | ind fuel ih =>
    intro v x h
    rcases DataW.trod_slice Tryd.underlying23 h with ⟨hcs, _⟩ | ⟨a, len, cap, elems, rest, n, hfu, hcs, _, _, hl, hm, hlen, hel, _, _⟩
    · simp at hcs
      subst hcs
      exact ⟨.nil, (none, 0, 0), rfl, tyV_nil.2 ⟨none, 0, rfl⟩, trivial⟩
    · simp at hcs
      subst hcs
      have hC : Tryd.prog.cellsOf 25 = 3 := by kernel_rfl
      have hI : Tryd.prog.cellsOf 3 = 1 := by kernel_rfl
      have hS : Tryd.prog.cellsOf 23 = 1 := by kernel_rfl
      rw [hC] at hel
      have key : ∀ i, i < len → ∃ t : Int × Int × Sl × Fo, W.cell? (a.add (i * 3)) = some (.int .i64 t.1) ∧ W.cell? ((a.add (i * 3)).add 1) = some (.int .i64 t.2.1) ∧ W.cell? ((a.add (i * 3)).add 2) = some (slv t.2.2.1) ∧ TyV W.heap.size W t.2.2.2 (slv t.2.2.1) ∧ (Lit.int .i64 t.2.1).wf = true ∧ t.2.2.2.wf := by
        intro i hil
        have he := hel i hil
        rw [List.getElem?_eq_getElem (by omega)] at he
        obtain ⟨cs', hc, ht'⟩ := Option.bind_eq_some_iff.1 he
        obtain ⟨ys, n', hn', _, hlen2, hyl, hfld⟩ := DataW.trod_struct Tryd.underlying25 ht'
        rw [hC] at hlen2
        obtain ⟨_, hcl, hat⟩ := World.cells?_some hc
        have q0 : DataW.trod enc Tryd.prog W 0 (fun _ => true) true n' 3 ((cs'.drop 0).take (Tryd.prog.cellsOf 3)) = ys[0]? := hfld 0 _ rfl
        have q1 : DataW.trod enc Tryd.prog W 0 (fun _ => true) true n' 3 ((cs'.drop 1).take (Tryd.prog.cellsOf 3)) = ys[1]? := hfld 1 _ rfl
        have q2 : DataW.trod enc Tryd.prog W 0 (fun _ => true) true n' 23 ((cs'.drop 2).take (Tryd.prog.cellsOf 23)) = ys[2]? := hfld 2 _ rfl
        have hyl' : ys.length = 3 := hyl
        rw [hI, List.getElem?_eq_getElem (by omega)] at q0
        rw [hI, List.getElem?_eq_getElem (by omega)] at q1
        rw [hS, List.getElem?_eq_getElem (by omega)] at q2
        obtain ⟨k0, hk0, _, _⟩ := DataW.trod_int Tryd.underlying3 q0
        obtain ⟨k1, hk1, _, hw1⟩ := DataW.trod_int Tryd.underlying3 q1
        match cs', hlen2 with
        | [c0, c1, c2], _ =>
          obtain ⟨F, u, hu, hF, hFw⟩ := ih n' (by omega) c2 _ q2
          simp at hk0 hk1
          subst hk0; subst hk1; subst hu
          refine ⟨(k0, k1, u, F), ?_, ?_, ?_, hF, hw1, hFw⟩
          · have := hat 0 (by omega)
            simpa [Addr.add] using this
          · exact hat 1 (by omega)
          · exact hat 2 (by omega)
      by_cases h0 : len = 0
      · subst h0
        exact ⟨.nil, (some a, 0, cap), rfl, tyV_nil.2 ⟨_, _, rfl⟩, trivial⟩
      · obtain ⟨b, off, spot⟩ := a
        obtain ⟨t0, hc0, _⟩ := key 0 (by omega)
        have hspot : spot = none := by simpa [Addr.add] using World.cell?_spot hc0
        subst hspot
        have hb : b < W.heap.size := by simpa [Addr.add] using World.block_lt_of_cell? _ _ hc0
        obtain ⟨ts, htl, hP⟩ := listOf _ len key
        have hTC : TyC W.heap.size W (foOf ts) b off := foOf_cells ts off fun i hi => by
          have hP2 := hP i hi
          simp only [Addr.add_lit] at hP2
          exact ⟨hP2.1, hP2.2.1, hP2.2.2.1, hP2.2.2.2.1⟩
        have hWF : (foOf ts).wf := foOf_wf ts fun i hi => (hP i hi).2.2.2.2
        cases ts with
        | nil => simp at htl; omega
        | cons t r =>
          refine ⟨foOf (t :: r), (some ⟨b, off, none⟩, len, cap), rfl, tyV_cons.2 ⟨b, off, cap, ?_, ?_, hm, hb, hTC⟩, hWF⟩
          · rw [foOf_len, ← htl]; rfl
          · rw [foOf_len]; simp at htl; omega
theorem ArgTy_open {H : Type} {enc : TypeId × Value → H} {W : World} {v : Value} {d : DataW H} {p : List MemPlace}
    (h : DataW.Trod enc Tryd.prog W 0 (fun _ => true) true 23 v d p) (hc : v.cells = #[v]) : ∃ F, TyV W.heap.size W F v := by
  obtain ⟨fuel, hf⟩ := h
  rw [hc] at hf
  obtain ⟨F, _, _, hF, _⟩ := types_read fuel v _ hf
  exact ⟨F, hF⟩
end Go.Proofs.YtifdbmdfkhnojaaDoor
/- What a substitution makes of a type, in place: holes, and what they become. -/
namespace Go.Proofs.YtifdbmdfkhnojaaDoor
open Go.RowKit Go.Shelf
/-- What a hole becomes. -/
def tgt (s : Sg) (h : Hole) : Int × Int × Fo := Fo.sub1 s h.k h.n h.ps
/-- A hole that is done. -/
def DoneAt (s : Sg) (W : World) (h : Hole) : Prop := ∃ g, g.pure = (tgt s h).2.2 ∧ TyAt W h.b h.off (tgt s h).1 (tgt s h).2.1 g
theorem holes_readS {s : Sg} {W : World} {c : Nat} (f : Fo) (off : Nat) (h : ∀ h ∈ holesOf c off f, DoneAt s W h) : ∃ G, G.pure = f.sub s ∧ TyC W.heap.size W G c off := by
  induction f generalizing off with
  | nil => exact ⟨.nil, rfl, tyC_nil⟩
  | cons k n u ps r _ ih =>
    obtain ⟨G, hG, hC⟩ := ih (off + 3) (fun x hx => h x (by simp only [holesOf]; exact List.mem_cons_of_mem _ hx))
    obtain ⟨g, hg, c0, c1, u2, c2, hv⟩ := h ⟨c, off, k, n, u, ps⟩ (by simp only [holesOf]; exact List.mem_cons_self)
    refine ⟨.cons _ _ u2 g G, ?_, tyC_cons.2 ⟨c0, c1, c2, hv, hC⟩⟩
    rw [Fo.sub_cons, Fo.pure, hg, hG]
    rfl
/-- Once the holes are done, the whole is. -/
def WandS (s : Sg) (T : TypeId) (rt B rb : Nat) (X : Int × Int × Fo) (w : World) (Hs : List Hole) : Prop :=
  ∀ W : World, w.heap.size ≤ W.heap.size → (∀ h ∈ Hs, DoneAt s W h) →
    (∀ b, B ≤ b → isT T rt w b → isT T rt W b ∧ ∀ off, Aside Hs b off → W.cell? ⟨b, off, none⟩ = w.cell? ⟨b, off, none⟩) → ∃ g, g.pure = X.2.2 ∧ TyAt W rb 0 X.1 X.2.1 g
/-- Cells that are the same are the same block. -/
theorem block_same {w W : World} {b : Nat} {cs cs' : Array Value} {T T' : TypeId} (h : w.heap[b]? = some (Obj.cells cs T)) (h' : W.heap[b]? = some (Obj.cells cs' T')) (hc : ∀ off, W.cell? ⟨b, off, none⟩ = w.cell? ⟨b, off, none⟩) : cs' = cs := by
  have key : ∀ (v : World) (xs : Array Value) (U : TypeId), v.heap[b]? = some (Obj.cells xs U) → ∀ off, v.cell? ⟨b, off, none⟩ = xs[off]? := by
    intro v xs U hv off
    simp [World.cell?, hv]
  apply Array.ext_getElem?
  intro i
  rw [← key W cs' T' h' i, ← key w cs T h i, hc i]
/-- A list of types in new memory, told without places. -/
def FreshP (T : TypeId) (B : Nat) (w : World) (P : Fo) (u : Sl) : Prop :=
  ∀ W : World, w.heap.size ≤ W.heap.size → (∀ (b : Nat) (cs : Array Value), B ≤ b → w.heap[b]? = some (Obj.cells cs T) → W.heap[b]? = some (Obj.cells cs T)) → ∃ g, g.pure = P ∧ TyV W.heap.size W g (slv u)
theorem FreshT.p {T : TypeId} {B : Nat} {w : World} {ps : Fo} {u : Sl} (h : FreshT T B w idn ps u) : FreshP T B w ps.pure u := fun W hs hc => by
  obtain ⟨g, hg, hv⟩ := h W hs hc
  exact ⟨g, (img_iff _ _).1 hg, hv⟩
theorem FreshP.now {T : TypeId} {B : Nat} {w : World} {P : Fo} {u : Sl} (h : FreshP T B w P u) : ∃ g, g.pure = P ∧ TyV w.heap.size w g (slv u) := h w (Nat.le_refl _) fun _ _ _ h => h
theorem FreshP.mono {T : TypeId} {B C : Nat} {w : World} {P : Fo} {u : Sl} (h : FreshP T B w P u) (hC : C ≤ B) : FreshP T C w P u := fun W hs hc => h W hs fun b cs hb hl => hc b cs (Nat.le_trans hC hb) hl
theorem FreshP.to {T : TypeId} {B : Nat} {w w' : World} {P : Fo} {u : Sl} (h : FreshP T B w P u) (hs : w.heap.size ≤ w'.heap.size) (hc : ∀ (b : Nat) (cs : Array Value), B ≤ b → w.heap[b]? = some (Obj.cells cs T) → w'.heap[b]? = some (Obj.cells cs T)) : FreshP T B w' P u :=
  fun W hs' hc' => h W (Nat.le_trans hs hs') fun b cs hb hl => hc' b cs hb (hc b cs hb hl)
theorem FreshP.below {T : TypeId} {B : Nat} {w w' : World} {P : Fo} {u : Sl} (h : FreshP T B w P u) (hb : Below w.heap.size w w') : FreshP T B w' P u :=
  h.to hb.size fun b _ _ hl => (hb.block b (Array.getElem?_eq_some_iff.1 hl).1).trans hl
theorem FreshP.kept {T : TypeId} {B : Nat} {w w' : World} {P : Fo} {u : Sl} (h : FreshP T B w P u) (k : KeepT T w w') : FreshP T B w' P u := h.to k.1 fun b cs _ hl => k.2 b cs hl
/-- A hole whose type has no bind gives way to its parts. -/
theorem WandS.step {s : Sg} {T : TypeId} {rt B rb : Nat} {X : Int × Int × Fo} {w w2 : World} {Hs : List Hole} {h : Hole} (hW : WandS s T rt B rb X w (Hs ++ [h])) (hn : h.k = 1 → s h.n = none)
    (hap : ∀ x ∈ Hs, Apart x h) (hB : B ≤ h.b) (hT : isT T rt w h.b)
    (hs : w.heap.size ≤ w2.heap.size) (hk : ∀ b off, B ≤ b → isT T rt w b → isT T rt w2 b ∧ (Aside [h] b off → w2.cell? ⟨b, off, none⟩ = w.cell? ⟨b, off, none⟩))
    {u2 : Sl} (h0 : w2.cell? ⟨h.b, h.off, none⟩ = some (.int .i64 h.k)) (h1 : w2.cell? ⟨h.b, h.off + 1, none⟩ = some (.int .i64 h.n)) (h2 : w2.cell? ⟨h.b, h.off + 2, none⟩ = some (slv u2))
    {c : Nat} (hc : w.heap.size ≤ c) (hu : (h.ps.len = 0 ∧ ∃ A cp, u2 = (A, 0, cp)) ∨ (0 < h.ps.len ∧ c < w2.heap.size ∧ ∃ cp, u2 = (some ⟨c, 0, none⟩, h.ps.len, cp) ∧ h.ps.len ≤ cp ∧ cp ≤ maxLen)) :
    WandS s T rt B rb X w2 (Hs ++ holesOf c 0 h.ps) := by
  intro W hsz hdone hfr
  have out : ∀ b off, b < w.heap.size → Aside Hs b off → Aside (Hs ++ holesOf c 0 h.ps) b off := by
    intro b off hb ha x hx hxb
    rcases List.mem_append.1 hx with hx | hx
    · exact ha x hx hxb
    · have := (holesOf_b hx).1
      omega
  have inH : ∀ j, j < 3 → Aside Hs h.b (h.off + j) := by
    intro j hj x hx hxb
    rcases hap x hx hxb with h' | h'
    · exact .inr (by omega)
    · exact .inl (by omega)
  have hat : ∀ j, j < 3 → W.cell? ⟨h.b, h.off + j, none⟩ = w2.cell? ⟨h.b, h.off + j, none⟩ := fun j hj => (hfr h.b hB (hk h.b 0 hB hT).1).2 _ (out _ _ hT.lt (inH j hj))
  have et : tgt s h = (h.k, h.n, h.ps.sub s) := Fo.sub1_not hn
  refine hW W (Nat.le_trans hs hsz) ?_ ?_
  · intro x hx
    rcases List.mem_append.1 hx with hx | hx
    · exact hdone x (List.mem_append_left _ hx)
    · have hxh : x = h := by simpa using hx
      rw [hxh]
      obtain ⟨G, hG, hC⟩ := holes_readS h.ps 0 (fun y hy => hdone y (List.mem_append_right _ hy))
      refine ⟨G, by rw [et]; exact hG, by rw [et]; exact (hat 0 (by omega)).trans h0, by rw [et]; exact (hat 1 (by omega)).trans h1, u2, (hat 2 (by omega)).trans h2, ?_⟩
      have hGl : G.len = h.ps.len := by rw [← Fo.pure_len, hG, Fo.sub_len]
      rcases hu with ⟨hz, A, cp, rfl⟩ | ⟨hp, hc2, cp, rfl, hcp, hcm⟩
      · cases G with
        | nil => exact tyV_nil.2 ⟨A, cp, rfl⟩
        | cons => simp only [Fo.len] at hGl; omega
      · cases G with
        | nil => simp only [Fo.len] at hGl; omega
        | cons k' n' u' ps' r' =>
          simp only [Fo.len] at hGl
          exact tyV_cons.2 ⟨c, 0, cp, by rw [← hGl]; rfl, by omega, hcm, by omega, hC⟩
  · intro b hb hbT
    refine ⟨(hfr b hb (hk b 0 hb hbT).1).1, fun off ha => ?_⟩
    have hA1 : Aside Hs b off := fun x hx => ha x (List.mem_append_left _ hx)
    have hA2 : Aside [h] b off := fun x hx => ha x (List.mem_append_right _ hx)
    rw [(hfr b hb (hk b off hb hbT).1).2 off (out b off hbT.lt hA1)]
    exact (hk b off hb hbT).2 hA2
/-- A hole whose type has a bind becomes what was made of that, in new memory. -/
theorem WandS.fill {s : Sg} {T : TypeId} {rt B rb : Nat} {X : Int × Int × Fo} {w wc w2 : World} {Hs : List Hole} {h : Hole} (hW : WandS s T rt B rb X w (Hs ++ [h]))
    (hap : ∀ x ∈ Hs, Apart x h) (hB : B ≤ h.b) (hBw : B ≤ w.heap.size) (hT : isT T rt w h.b) (hHs : ∀ x ∈ Hs, x.b < w.heap.size) (hrt : rt < w.heap.size)
    (hs : w.heap.size ≤ w2.heap.size) (hk : ∀ b off, B ≤ b → isT T rt w b → isT T rt w2 b ∧ (Aside [h] b off → w2.cell? ⟨b, off, none⟩ = w.cell? ⟨b, off, none⟩))
    {x : Int × Int × Fo} (hx : tgt s h = x) {u2 : Sl} (h0 : w2.cell? ⟨h.b, h.off, none⟩ = some (.int .i64 x.1)) (h1 : w2.cell? ⟨h.b, h.off + 1, none⟩ = some (.int .i64 x.2.1)) (h2 : w2.cell? ⟨h.b, h.off + 2, none⟩ = some (slv u2))
    (hsc : wc.heap.size ≤ w2.heap.size) (hF : FreshP T w.heap.size wc x.2.2 u2) (hwc : ∀ (b : Nat) (cs : Array Value), w.heap.size ≤ b → wc.heap[b]? = some (Obj.cells cs T) → w2.heap[b]? = some (Obj.cells cs T)) :
    WandS s T rt B rb X w2 Hs := by
  intro W hsz hdone hfr
  have inH : ∀ j, j < 3 → Aside Hs h.b (h.off + j) := by
    intro j hj x hx hxb
    rcases hap x hx hxb with h' | h'
    · exact .inr (by omega)
    · exact .inl (by omega)
  have hat : ∀ j, j < 3 → W.cell? ⟨h.b, h.off + j, none⟩ = w2.cell? ⟨h.b, h.off + j, none⟩ := fun j hj => (hfr h.b hB (hk h.b 0 hB hT).1).2 _ (inH j hj)
  refine hW W (Nat.le_trans hs hsz) ?_ ?_
  · intro y hy
    rcases List.mem_append.1 hy with hy | hy
    · exact hdone y hy
    · have hxh : y = h := by simpa using hy
      rw [hxh]
      obtain ⟨g, hg, hv⟩ := hF W (Nat.le_trans hsc hsz) fun b cs hb hcs => by
        have h2s := hwc b cs hb hcs
        have hbT : isT T rt w2 b := ⟨by omega, cs, h2s⟩
        obtain ⟨⟨_, cs', hW'⟩, hcell⟩ := hfr b (Nat.le_trans hBw hb) hbT
        have := block_same h2s hW' fun off => hcell off fun z hz hzb => by have := hHs z hz; omega
        rw [hW', this]
      exact ⟨g, by rw [hx]; exact hg, by rw [hx]; exact (hat 0 (by omega)).trans h0, by rw [hx]; exact (hat 1 (by omega)).trans h1, u2, (hat 2 (by omega)).trans h2, hv⟩
  · intro b hb hbT
    refine ⟨(hfr b hb (hk b 0 hb hbT).1).1, fun off ha => ?_⟩
    have hA1 : Aside Hs b off := fun x hx => ha x (List.mem_append_left _ hx)
    have hA2 : Aside [h] b off := fun x hx => ha x (List.mem_append_right _ hx)
    rw [(hfr b hb (hk b off hb hbT).1).2 off hA1]
    exact (hk b off hb hbT).2 hA2
theorem holesOf_wf (c off : Nat) (f : Fo) (hf : f.wf) : ∀ h ∈ holesOf c off f, (Lit.int .i64 h.n).wf = true ∧ h.ps.wf := by
  induction f generalizing off with
  | nil => intro h hh; simp [holesOf] at hh
  | cons k n u ps r _ ih =>
    intro h hh
    simp only [holesOf, List.mem_cons] at hh
    rcases hh with rfl | hh
    · exact ⟨hf.1, hf.2.1⟩
    · exact ih (off + 3) hf.2.2 h hh
/-- A hole whose numbers are such as an int may be. -/
def HoleW (h : Hole) : Prop := (Lit.int .i64 h.n).wf = true ∧ h.ps.wf
/-- Between two rounds. -/
def SbInv (s : Sg) (T P : TypeId) (w0 : World) (rt rb : Nat) (X : Int × Int × Fo) (t : Value) (w : World) (m : Nat) : Prop :=
  ∃ Hs : List Hole, left_ Hs = m ∧ m ≤ 1000000 ∧ w.ownsRow w0.heap.size P 1 t Hs.length (ptrs Hs) ∧ (∀ h ∈ Hs, HoleAt T rt w0.heap.size w h ∧ HoleW h) ∧ Hs.Pairwise Apart ∧
    WandS s T rt w0.heap.size rb X w Hs ∧ Below w0.heap.size w0 w ∧ w.heap[rt]? = some (Obj.cells rt0 T) ∧ w0.heap.size ≤ rt ∧ isT T rt w rb
/-- What a step that touches one hole leaves of the others. -/
theorem hole_kept {T : TypeId} {rt B : Nat} {h x : Hole} {w w' : World} (t : Tch T rt B h w w') (hx : HoleAt T rt B w x) (ha : Apart x h) : HoleAt T rt B w' x := by
  obtain ⟨xB, xT, x0, x1, x2, xv⟩ := hx
  have has : ∀ j, j < 3 → Aside [h] x.b (x.off + j) := by
    intro j hj y hy hyb
    have hyh : y = h := by simpa using hy
    rw [hyh] at hyb ⊢
    rcases ha hyb.symm with h' | h'
    · exact .inl (by omega)
    · exact .inr (by omega)
  exact ⟨xB, t.kept _ xT, (t.cell _ _ xT (has 0 (by omega))).trans x0, (t.cell _ _ xT (has 1 (by omega))).trans x1, (t.cell _ _ xT (has 2 (by omega))).trans x2, xv.below t.below⟩
/-- A round that leaves a type's parts to be done. -/
theorem sb_step {s : Sg} {T P : TypeId} {w : World} {rt rb : Nat} {X : Int × Int × Fo} {wr w5 : World} {Hq : List Hole} {h : Hole} {t5 : Value} {c m : Nat} {u2 : Sl}
    (hat : ∀ x ∈ Hq ++ [h], HoleAt T rt w.heap.size wr x ∧ HoleW x) (hap : (Hq ++ [h]).Pairwise Apart) (hwd : WandS s T rt w.heap.size rb X wr (Hq ++ [h])) (hb : Below w.heap.size w wr) (hrt : wr.heap[rt]? = some (Obj.cells rt0 T)) (hrt2 : w.heap.size ≤ rt) (hrb : Go.Proofs.YtifdbmdfkhnojaaDoor.isT T rt wr rb)
    (hsm : left_ (Hq ++ [h]) ≤ 1000000) (hn : h.k = 1 → s h.n = none) (t : Tch T rt w.heap.size h wr w5) (hm : h.ps.len = m) (hc : wr.heap.size ≤ c)
    (c0 : w5.cell? ⟨h.b, h.off, none⟩ = some (.int .i64 h.k)) (c1 : w5.cell? ⟨h.b, h.off + 1, none⟩ = some (.int .i64 h.n)) (c2 : w5.cell? ⟨h.b, h.off + 2, none⟩ = some (slv u2))
    (hu : (m = 0 ∧ ∃ A cp, u2 = (A, 0, cp)) ∨ (0 < m ∧ (∃ cs, w5.heap[c]? = some (Obj.cells cs T)) ∧ (∀ j u, (h.ps.top.flatMap trC)[j]? = some u → w5.cell? ⟨c, j, none⟩ = some u) ∧ ∃ cp, u2 = (some ⟨c, 0, none⟩, m, cp) ∧ m ≤ cp ∧ cp ≤ maxLen))
    (hown : w5.ownsRow w.heap.size P 1 t5 (Hq.length + m) (ptrs Hq ++ ptrs (holesOf c 0 h.ps))) : SbInv s T P w rt rb X t5 w5 (left_ Hq + h.ps.size) := by
  subst hm
  obtain ⟨⟨hbB, hT, d0, d1, d2, hv⟩, hwn, hwp⟩ := hat h (List.mem_append_right _ (List.mem_singleton.2 rfl))
  have hrl : rt < wr.heap.size := (Array.getElem?_eq_some_iff.1 hrt).1
  have hpa : ∀ x ∈ Hq, Apart x h := fun x hx => (List.pairwise_append.1 hap).2.2 x hx h (List.mem_singleton.2 rfl)
  have hlt : ∀ x ∈ Hq, x.b < wr.heap.size := fun x hx => (hat x (List.mem_append_left _ hx)).1.2.1.lt
  refine ⟨Hq ++ holesOf c 0 h.ps, by rw [left_app, left_holes], ?_, by rw [List.length_append, holesOf_len, ptrs_app]; exact hown, ?_, ?_, ?_, hb.trans t.below, t.rt _ hrt, hrt2, t.kept _ hrb⟩
  · rw [left_app] at hsm
    simp only [left_, List.map_cons, List.map_nil, List.sum_cons, List.sum_nil] at hsm ⊢
    omega
  · intro x hx
    rcases List.mem_append.1 hx with hx | hx
    · have := hat x (List.mem_append_left _ hx)
      exact ⟨hole_kept t this.1 (hpa x hx), this.2⟩
    · refine ⟨?_, holesOf_wf c 0 h.ps hwp x hx⟩
      rcases hu with ⟨h0, _⟩ | ⟨_, hcT, hcc, _⟩
      · exfalso
        have := holesOf_len c 0 h.ps
        rw [h0] at this
        rw [List.eq_nil_of_length_eq_zero this] at hx
        cases hx
      · exact holes_at (Nat.le_trans hb.size hc) ⟨by omega, hcT⟩ h.ps 0 (fun j u hj => by rw [Nat.zero_add]; exact hcc j u hj) (hv.list.below t.below) x hx
  · refine List.pairwise_append.2 ⟨(List.pairwise_append.1 hap).1, holesOf_apart _ _ _, fun x hx y hy e => ?_⟩
    have := hlt x hx
    have := (holesOf_b hy).1
    omega
  · refine hwd.step hn hpa hbB hT t.below.size (fun b off _ hbT => ⟨t.kept b hbT, fun ha => t.cell b off hbT ha⟩) c0 c1 c2 hc ?_
    rcases hu with h0 | ⟨hp, ⟨cs, hcs⟩, _, cp, e, h1, h2⟩
    · exact .inl h0
    · exact .inr ⟨hp, (Array.getElem?_eq_some_iff.1 hcs).1, cp, e, h1, h2⟩
/-- A round that lays what a variable became. -/
theorem sb_fill {s : Sg} {T P : TypeId} {w : World} {rt rb : Nat} {X : Int × Int × Fo} {wr wc w5 : World} {Hq : List Hole} {h : Hole} {t5 : Value} {u2 : Sl} {x : Int × Int × Fo}
    (hat : ∀ x ∈ Hq ++ [h], HoleAt T rt w.heap.size wr x ∧ HoleW x) (hap : (Hq ++ [h]).Pairwise Apart) (hwd : WandS s T rt w.heap.size rb X wr (Hq ++ [h])) (hb : Below w.heap.size w wr) (hrt : wr.heap[rt]? = some (Obj.cells rt0 T)) (hrt2 : w.heap.size ≤ rt) (hrb : Go.Proofs.YtifdbmdfkhnojaaDoor.isT T rt wr rb)
    (hsm : left_ (Hq ++ [h]) ≤ 1000000) (t : Tch T rt w.heap.size h wr w5) (hx : tgt s h = x)
    (c0 : w5.cell? ⟨h.b, h.off, none⟩ = some (.int .i64 x.1)) (c1 : w5.cell? ⟨h.b, h.off + 1, none⟩ = some (.int .i64 x.2.1)) (c2 : w5.cell? ⟨h.b, h.off + 2, none⟩ = some (slv u2))
    (hsc : wc.heap.size ≤ w5.heap.size) (hF : FreshP T wr.heap.size wc x.2.2 u2) (hwc : ∀ (b : Nat) (cs : Array Value), wr.heap.size ≤ b → wc.heap[b]? = some (Obj.cells cs T) → w5.heap[b]? = some (Obj.cells cs T))
    (hown : w5.ownsRow w.heap.size P 1 t5 Hq.length (ptrs Hq)) : SbInv s T P w rt rb X t5 w5 (left_ Hq) := by
  obtain ⟨⟨hbB, hT, d0, d1, d2, hv⟩, hwn, hwp⟩ := hat h (List.mem_append_right _ (List.mem_singleton.2 rfl))
  have hrl : rt < wr.heap.size := (Array.getElem?_eq_some_iff.1 hrt).1
  have hpa : ∀ x ∈ Hq, Apart x h := fun x hx => (List.pairwise_append.1 hap).2.2 x hx h (List.mem_singleton.2 rfl)
  have hlt : ∀ x ∈ Hq, x.b < wr.heap.size := fun x hx => (hat x (List.mem_append_left _ hx)).1.2.1.lt
  refine ⟨Hq, rfl, ?_, hown, ?_, (List.pairwise_append.1 hap).1, ?_, hb.trans t.below, t.rt _ hrt, hrt2, t.kept _ hrb⟩
  · rw [left_app] at hsm
    omega
  · intro x hx
    have := hat x (List.mem_append_left _ hx)
    exact ⟨hole_kept t this.1 (hpa x hx), this.2⟩
  · exact hwd.fill hpa hbB hb.size hT hlt hrl t.below.size (fun b off _ hbT => ⟨t.kept b hbT, fun ha => t.cell b off hbT ha⟩) hx c0 c1 c2 hsc hF hwc
end Go.Proofs.YtifdbmdfkhnojaaDoor
