/- Texts of one proof, one behind the other. -/
import Derived.Test.YtifdbmdfkhnojaaDoorMgSubstThen12
import Derived.Test.YtifdbmdfkhnojaaDoorMgSubstThen15
import Derived.Deep.RegionHeld3
import Derived.Handy
import Derived.Test.YtifdbmdfkhnojaaDoorMgSubstThen2
import Derived.Deep.RegionLaw
import Derived.Test.YtifdbmdfkhnojaaDoorMgSubstThen7
/- The chapter's example. -/
namespace Go.Proofs.YtifdbmdfkhnojaaDoor
open Go.RowKit Go.Shelf

/-- A variable, an int. -/
def F11 : Fo := .cons 1 0 (none, 0, 0) .nil (.cons 2 0 (none, 0, 0) .nil .nil)
/-- A variable, a bool. -/
def F14 : Fo := .cons 1 0 (none, 0, 0) .nil (.cons 3 0 (none, 0, 0) .nil .nil)
/-- The example's parts. -/
def FEx : Fo := .cons 4 0 (none, 0, 0) F11 (.cons 5 0 (none, 0, 0) F14 .nil)
/-- An arrow of two, told of a world. -/
theorem arrow_two (X : World) (g cp : Nat) (k0 n0 k1 n1 : Int) (u0 u1 : Sl) (f0 f1 : Fo) (hg : g < X.heap.size) (hcp : 2 ≤ cp) (hcm : cp ≤ maxLen) (c0 : X.cell? ⟨g, 0, none⟩ = some (.int .i64 k0)) (c1 : X.cell? ⟨g, 1, none⟩ = some (.int .i64 n0)) (c2 : X.cell? ⟨g, 2, none⟩ = some (slv u0)) (c3 : X.cell? ⟨g, 3, none⟩ = some (.int .i64 k1)) (c4 : X.cell? ⟨g, 4, none⟩ = some (.int .i64 n1)) (c5 : X.cell? ⟨g, 5, none⟩ = some (slv u1)) (h0 : TyV X.heap.size X f0 (slv u0)) (h1 : TyV X.heap.size X f1 (slv u1)) (hs : f0.size + f1.size < 1000) :
    Calls Tryd.prog 31 #[.slice (some ⟨g, 0, none⟩) 2 cp] X fun e w' => ∃ u' : Sl, e = .returned (tyVal 4 0 (slv u')) ∧ Below X.heap.size X w' ∧ FreshT 25 X.heap.size w' idn (.cons k0 n0 u0 f0 (.cons k1 n1 (none, 0, 0) f1 .nil)) u' := by
  have h := arrow_any X _ _ (two_cells g cp k0 n0 k1 n1 u0 u1 f0 f1 hg hcp hcm c0 c1 c2 c3 c4 c5 h0 h1) (by simp only [Fo.size]; omega)
  simpa [Fo.arrF, Fo.len] using h
theorem have_of {p q goal : Prop} (f : p → q) (hp : p) (k : q → goal) : goal := k (f hp)
theorem cellAll {B : Nat} {w w' : World} (h : Below B w w') (a : Nat) (ha : a < B) : ∀ off, w'.cell? ⟨a, off, none⟩ = w.cell? ⟨a, off, none⟩ := fun _ => h.cell (p := ⟨a, _, none⟩) ha
theorem frozenAll {B : Nat} {w w' : World} (h : Below B w w') (a : Nat) (ha : a < B) : ∀ off, w'.frozen? ⟨a, off, none⟩ = w.frozen? ⟨a, off, none⟩ := fun _ => h.frozen (p := ⟨a, _, none⟩) ha
theorem FreshT.img {T : TypeId} {B : Nat} {w : World} {f g : Fo} {u : Sl} (h : FreshT T B w idn g u) (hi : Img idn f g) : FreshT T B w idn f u := fun W hs hk => by
  obtain ⟨g', hg', ht⟩ := h W hs hk
  exact ⟨g', hi.trans hg', ht⟩
/-- The second arrow: of what the first one gave, and a tuple. -/
theorem arrow_snd (Y w3 : World) (B : Nat) (v : Sl) (hf : FreshT 25 B w3 idn F11 v) (g g14 : Nat) (c5 : Y.cell? ⟨g, 5, none⟩ = some (.slice (some ⟨g14, 0, none⟩) 2 2)) (hb : Below w3.heap.size w3 Y) (hg : g < Y.heap.size) (hg14 : g14 < Y.heap.size)
    (c0 : Y.cell? ⟨g, 0, none⟩ = some (.int .i64 4)) (c1 : Y.cell? ⟨g, 1, none⟩ = some (.int .i64 0)) (c2 : Y.cell? ⟨g, 2, none⟩ = some (.slice v.1 v.2.1 v.2.2)) (c3 : Y.cell? ⟨g, 3, none⟩ = some (.int .i64 5)) (c4 : Y.cell? ⟨g, 4, none⟩ = some (.int .i64 0))
    (d0 : Y.cell? ⟨g14, 0, none⟩ = some (.int .i64 1)) (d1 : Y.cell? ⟨g14, 1, none⟩ = some (.int .i64 0)) (d2 : Y.cell? ⟨g14, 2, none⟩ = some (.slice none 0 0)) (d3 : Y.cell? ⟨g14, 3, none⟩ = some (.int .i64 3)) (d4 : Y.cell? ⟨g14, 4, none⟩ = some (.int .i64 0)) (d5 : Y.cell? ⟨g14, 5, none⟩ = some (.slice none 0 0)) :
    Calls Tryd.prog 31 #[.slice (some ⟨g, 0, none⟩) 2 2] Y fun e w' => ∃ u' : Sl, e = .returned (tyVal 4 0 (slv u')) ∧ Below Y.heap.size Y w' ∧ FreshT 25 Y.heap.size w' idn FEx u' := by
  obtain ⟨G, hG, hT⟩ := (hf.below hb).now
  have hGs := hG.size
  have hFs : F11.size = 2 := by decide
  have hFs4 : F14.size = 2 := by decide
  have h14 : TyV Y.heap.size Y F14 (slv (some ⟨g14, 0, none⟩, 2, 2)) := two_cells g14 2 1 0 3 0 (none, 0, 0) (none, 0, 0) .nil .nil hg14 (Nat.le_refl _) (by unfold maxLen; omega) d0 d1 d2 d3 d4 d5 (no_parts _ _) (no_parts _ _)
  refine (arrow_two Y g 2 4 0 5 0 v (some ⟨g14, 0, none⟩, 2, 2) G F14 hg (Nat.le_refl _) (by unfold maxLen; omega) c0 c1 c2 c3 c4 c5 hT h14 (by omega)).mono ?_
  rintro e w' ⟨u', rfl, hb', hf'⟩
  exact ⟨u', rfl, hb', hf'.img ⟨rfl, rfl, hG, rfl, rfl, ⟨rfl, rfl, trivial, rfl, rfl, trivial, trivial⟩, trivial⟩⟩
/-- The first arrow. -/
theorem arrow_fst (X : World) (g : Nat) (hg : g < X.heap.size) (c0 : X.cell? ⟨g, 0, none⟩ = some (.int .i64 1)) (c1 : X.cell? ⟨g, 1, none⟩ = some (.int .i64 0)) (c2 : X.cell? ⟨g, 2, none⟩ = some (.slice none 0 0)) (c3 : X.cell? ⟨g, 3, none⟩ = some (.int .i64 2)) (c4 : X.cell? ⟨g, 4, none⟩ = some (.int .i64 0)) (c5 : X.cell? ⟨g, 5, none⟩ = some (.slice none 0 0)) :
    Calls Tryd.prog 31 #[.slice (some ⟨g, 0, none⟩) 2 2] X fun e w' => ∃ u' : Sl, e = .returned (tyVal 4 0 (slv u')) ∧ Below X.heap.size X w' ∧ FreshT 25 X.heap.size w' idn F11 u' :=
  arrow_two X g 2 1 0 2 0 (none, 0, 0) (none, 0, 0) .nil .nil hg (Nat.le_refl _) (by unfold maxLen; omega) c0 c1 c2 c3 c4 c5 (no_parts _ _) (no_parts _ _) (by simp [Fo.size])
theorem example_txt : oneT 4 0 FEx.txts = [40, 39, 97, 32, 45, 62, 32, 105, 110, 116, 41, 32, 45, 62, 32, 40, 39, 97, 32, 42, 32, 98, 111, 111, 108, 41] := by
  have h0 : nameB 0 = [39, 97] := by decide
  simp [FEx, F11, F14, Fo.txts, oneT, brk, sepT, h0]
theorem example_ok : (alone 4 0 FEx.len && FEx.ok) = true := by decide
theorem example_size : FEx.size = 6 := by decide
theorem FreshT.set {T : TypeId} {B : Nat} {w : World} {f : Fo} {u : Sl} (h : FreshT T B w idn f u) (g j : Nat) (v : Value) (hg : g < B) : FreshT T B (w.setCell ⟨g, j, none⟩ v) idn f u :=
  h.to (by simp) fun b _ hb hl => (Below.heap_setCell _ _ _ _ (by simp only; omega)).trans hl
theorem fin_world {K : Exit → Act → World → Prop} {x : Exit} {t0 t1 t2 t3 : Value} {rest : List Value} {ds : List Deferred} {g : Nat} {W : World} (R : World → Nat → Prop) (h : R W g) (k : ∀ Z g, R Z g → K x ⟨(t0 :: t1 :: t2 :: t3 :: Value.pointer (some ⟨g, 0, none⟩) :: rest).toArray, ds⟩ Z) : K x ⟨(t0 :: t1 :: t2 :: t3 :: Value.pointer (some ⟨g, 0, none⟩) :: rest).toArray, ds⟩ W := k W g h
theorem cells3 (w : World) (g : Nat) (a b c x y z : Value) (h0 : w.cell? ⟨g, 0, none⟩ = some x) (h1 : w.cell? ⟨g, 1, none⟩ = some y) (h2 : w.cell? ⟨g, 2, none⟩ = some z) :
    (((w.setCell ⟨g, 0, none⟩ a).setCell ⟨g, 1, none⟩ b).setCell ⟨g, 2, none⟩ c).cell? ⟨g, 0, none⟩ = some a ∧ (((w.setCell ⟨g, 0, none⟩ a).setCell ⟨g, 1, none⟩ b).setCell ⟨g, 2, none⟩ c).cell? ⟨g, 1, none⟩ = some b ∧ (((w.setCell ⟨g, 0, none⟩ a).setCell ⟨g, 1, none⟩ b).setCell ⟨g, 2, none⟩ c).cell? ⟨g, 2, none⟩ = some c := by
  refine ⟨by go_simp, by go_simp, by go_simp⟩
/-- What the three say of the example. -/
theorem example_said {B : Nat} {w : World} {G : Fo} {v : Sl} (hi : Img idn FEx G) (ht : TyV B w G (slv v)) :
    (if alone 4 0 G.len && G.ok then oneT 4 0 G.txts else []) = [40, 39, 97, 32, 45, 62, 32, 105, 110, 116, 41, 32, 45, 62, 32, 40, 39, 97, 32, 42, 32, 98, 111, 111, 108, 41] ∧ allAlone (Fo.cons 4 0 v G .nil).pre = true ∧ G.size = 6 := by
  have hok : (alone 4 0 G.len && G.ok) = true := by rw [hi.len, hi.ok]; exact example_ok
  refine ⟨?_, ?_, hi.size.trans example_size⟩
  · rw [if_pos hok, hi.txts, example_txt]
  · have h2 := allAlone_ok G ht.list
    have hl : v.2.1 = G.len := by
      obtain ⟨A, c, hs⟩ := ht.slice
      obtain ⟨v1, v2, v3⟩ := v
      simp only [slv, Value.slice.injEq] at hs
      exact hs.2.1
    simp only [Bool.and_eq_true] at hok
    simp only [Fo.pre, List.append_nil]
    show (alone 4 0 v.2.1 && allAlone G.pre) = true
    rw [hl, hok.1, h2.trans hok.2]
    rfl
end Go.Proofs.YtifdbmdfkhnojaaDoor
/- An append as one step of a region that draws, by its run. Nothing here speaks of the program. -/
namespace Go.Proofs.YtifdbmdfkhnojaaDoor
open Go.RowKit
theorem step_app {P : Program} {ops : Array Oper} {o : Oper} {a : Act} {w : World} {K : Act → World → Prop} {Q : Exit → Act → World → Prop} {E : Prop} (hgd : o.guard = none) (s x : Operand) (t : TypeId)
    (ho : o.op = .call { callee := .builtin .append, args := #[s, x], argTypes := #[t, t] }) {vs vx v' : Value} {w' : World} (hrun : (app_ #[t, t] o.type #[vs, vx]).run P w = .ok v' w')
    (hs : a.eval s = vs) (hx : a.eval x = vx) (h : K (a.put o.dst v') w') : if Region.wanted o (yielded ops a.tmps) = true then Oper.wp P o a w K Q else E := by
  have hw : Region.wanted o (yielded ops a.tmps) = true := by simp [Region.wanted, hgd]
  rw [if_pos hw]
  have hrun2 : (Builtin.append_ #[t, t] o.type #[vs, vx]).run P w = .ok v' w' := hrun
  unfold Oper.wp
  simp [execOp, ho, resolve, invoke, builtin, hs, hx, hrun2, Result.andThen]
  exact h
end Go.Proofs.YtifdbmdfkhnojaaDoor
/- What a substitution makes of a type, in place: holes, and what they become. -/
namespace Go.Proofs.YtifdbmdfkhnojaaDoor
open Go.RowKit Go.Shelf
/-- What a hole becomes. -/
def tgt (s : Sg) (h : Hole) : Int × Int × Fo := Fo.sub1 s h.k h.n h.ps
/-- A hole that is done. -/
def DoneAt (s : Sg) (W : World) (h : Hole) : Prop := ∃ g, g.pure = (tgt s h).2.2 ∧ TyAt W h.b h.off (tgt s h).1 (tgt s h).2.1 g
theorem holes_readS {s : Sg} {W : World} {c : Nat} (f : Fo) (off : Nat) (h : ∀ h ∈ holesOf c off f, DoneAt s W h) : ∃ G, G.pure = f.sub s ∧ TyC W.heap.size W G c off := by
  induction f generalizing off with
  | nil => exact ⟨.nil, rfl, tyC_nil⟩
  | cons k n u ps r _ ih =>
    obtain ⟨G, hG, hC⟩ := ih (off + 3) (fun x hx => h x (by simp only [holesOf]; exact List.mem_cons_of_mem _ hx))
    obtain ⟨g, hg, c0, c1, u2, c2, hv⟩ := h ⟨c, off, k, n, u, ps⟩ (by simp only [holesOf]; exact List.mem_cons_self)
    refine ⟨.cons _ _ u2 g G, ?_, tyC_cons.2 ⟨c0, c1, c2, hv, hC⟩⟩
    rw [Fo.sub_cons, Fo.pure, hg, hG]
    rfl
/-- Once the holes are done, the whole is. -/
def WandS (s : Sg) (T : TypeId) (rt B rb : Nat) (X : Int × Int × Fo) (w : World) (Hs : List Hole) : Prop :=
  ∀ W : World, w.heap.size ≤ W.heap.size → (∀ h ∈ Hs, DoneAt s W h) →
    (∀ b, B ≤ b → isT T rt w b → isT T rt W b ∧ ∀ off, Aside Hs b off → W.cell? ⟨b, off, none⟩ = w.cell? ⟨b, off, none⟩) → ∃ g, g.pure = X.2.2 ∧ TyAt W rb 0 X.1 X.2.1 g
/-- Cells that are the same are the same block. -/
theorem block_same {w W : World} {b : Nat} {cs cs' : Array Value} {T T' : TypeId} (h : w.heap[b]? = some (Obj.cells cs T)) (h' : W.heap[b]? = some (Obj.cells cs' T')) (hc : ∀ off, W.cell? ⟨b, off, none⟩ = w.cell? ⟨b, off, none⟩) : cs' = cs := by
  have key : ∀ (v : World) (xs : Array Value) (U : TypeId), v.heap[b]? = some (Obj.cells xs U) → ∀ off, v.cell? ⟨b, off, none⟩ = xs[off]? := by
    intro v xs U hv off
    simp [World.cell?, hv]
  apply Array.ext_getElem?
  intro i
  rw [← key W cs' T' h' i, ← key w cs T h i, hc i]
/-- A list of types in new memory, told without places. -/
def FreshP (T : TypeId) (B : Nat) (w : World) (P : Fo) (u : Sl) : Prop :=
  ∀ W : World, w.heap.size ≤ W.heap.size → (∀ (b : Nat) (cs : Array Value), B ≤ b → w.heap[b]? = some (Obj.cells cs T) → W.heap[b]? = some (Obj.cells cs T)) → ∃ g, g.pure = P ∧ TyV W.heap.size W g (slv u)
theorem FreshT.p {T : TypeId} {B : Nat} {w : World} {ps : Fo} {u : Sl} (h : FreshT T B w idn ps u) : FreshP T B w ps.pure u := fun W hs hc => by
  obtain ⟨g, hg, hv⟩ := h W hs hc
  exact ⟨g, (img_iff _ _).1 hg, hv⟩
theorem FreshP.now {T : TypeId} {B : Nat} {w : World} {P : Fo} {u : Sl} (h : FreshP T B w P u) : ∃ g, g.pure = P ∧ TyV w.heap.size w g (slv u) := h w (Nat.le_refl _) fun _ _ _ h => h
theorem FreshP.mono {T : TypeId} {B C : Nat} {w : World} {P : Fo} {u : Sl} (h : FreshP T B w P u) (hC : C ≤ B) : FreshP T C w P u := fun W hs hc => h W hs fun b cs hb hl => hc b cs (Nat.le_trans hC hb) hl
theorem FreshP.to {T : TypeId} {B : Nat} {w w' : World} {P : Fo} {u : Sl} (h : FreshP T B w P u) (hs : w.heap.size ≤ w'.heap.size) (hc : ∀ (b : Nat) (cs : Array Value), B ≤ b → w.heap[b]? = some (Obj.cells cs T) → w'.heap[b]? = some (Obj.cells cs T)) : FreshP T B w' P u :=
  fun W hs' hc' => h W (Nat.le_trans hs hs') fun b cs hb hl => hc' b cs hb (hc b cs hb hl)
theorem FreshP.below {T : TypeId} {B : Nat} {w w' : World} {P : Fo} {u : Sl} (h : FreshP T B w P u) (hb : Below w.heap.size w w') : FreshP T B w' P u :=
  h.to hb.size fun b _ _ hl => (hb.block b (Array.getElem?_eq_some_iff.1 hl).1).trans hl
theorem FreshP.kept {T : TypeId} {B : Nat} {w w' : World} {P : Fo} {u : Sl} (h : FreshP T B w P u) (k : KeepT T w w') : FreshP T B w' P u := h.to k.1 fun b cs _ hl => k.2 b cs hl
/-- A hole whose type has no bind gives way to its parts. -/
theorem WandS.step {s : Sg} {T : TypeId} {rt B rb : Nat} {X : Int × Int × Fo} {w w2 : World} {Hs : List Hole} {h : Hole} (hW : WandS s T rt B rb X w (Hs ++ [h])) (hn : h.k = 1 → s h.n = none)
    (hap : ∀ x ∈ Hs, Apart x h) (hB : B ≤ h.b) (hT : isT T rt w h.b)
    (hs : w.heap.size ≤ w2.heap.size) (hk : ∀ b off, B ≤ b → isT T rt w b → isT T rt w2 b ∧ (Aside [h] b off → w2.cell? ⟨b, off, none⟩ = w.cell? ⟨b, off, none⟩))
    {u2 : Sl} (h0 : w2.cell? ⟨h.b, h.off, none⟩ = some (.int .i64 h.k)) (h1 : w2.cell? ⟨h.b, h.off + 1, none⟩ = some (.int .i64 h.n)) (h2 : w2.cell? ⟨h.b, h.off + 2, none⟩ = some (slv u2))
    {c : Nat} (hc : w.heap.size ≤ c) (hu : (h.ps.len = 0 ∧ ∃ A cp, u2 = (A, 0, cp)) ∨ (0 < h.ps.len ∧ c < w2.heap.size ∧ ∃ cp, u2 = (some ⟨c, 0, none⟩, h.ps.len, cp) ∧ h.ps.len ≤ cp ∧ cp ≤ maxLen)) :
    WandS s T rt B rb X w2 (Hs ++ holesOf c 0 h.ps) := by
  intro W hsz hdone hfr
  have out : ∀ b off, b < w.heap.size → Aside Hs b off → Aside (Hs ++ holesOf c 0 h.ps) b off := by
    intro b off hb ha x hx hxb
    rcases List.mem_append.1 hx with hx | hx
    · exact ha x hx hxb
    · have := (holesOf_b hx).1
      omega
  have inH : ∀ j, j < 3 → Aside Hs h.b (h.off + j) := by
    intro j hj x hx hxb
    rcases hap x hx hxb with h' | h'
    · exact .inr (by omega)
    · exact .inl (by omega)
  have hat : ∀ j, j < 3 → W.cell? ⟨h.b, h.off + j, none⟩ = w2.cell? ⟨h.b, h.off + j, none⟩ := fun j hj => (hfr h.b hB (hk h.b 0 hB hT).1).2 _ (out _ _ hT.lt (inH j hj))
  have et : tgt s h = (h.k, h.n, h.ps.sub s) := Fo.sub1_not hn
  refine hW W (Nat.le_trans hs hsz) ?_ ?_
  · intro x hx
    rcases List.mem_append.1 hx with hx | hx
    · exact hdone x (List.mem_append_left _ hx)
    · have hxh : x = h := by simpa using hx
      rw [hxh]
      obtain ⟨G, hG, hC⟩ := holes_readS h.ps 0 (fun y hy => hdone y (List.mem_append_right _ hy))
      refine ⟨G, by rw [et]; exact hG, by rw [et]; exact (hat 0 (by omega)).trans h0, by rw [et]; exact (hat 1 (by omega)).trans h1, u2, (hat 2 (by omega)).trans h2, ?_⟩
      have hGl : G.len = h.ps.len := by rw [← Fo.pure_len, hG, Fo.sub_len]
      rcases hu with ⟨hz, A, cp, rfl⟩ | ⟨hp, hc2, cp, rfl, hcp, hcm⟩
      · cases G with
        | nil => exact tyV_nil.2 ⟨A, cp, rfl⟩
        | cons => simp only [Fo.len] at hGl; omega
      · cases G with
        | nil => simp only [Fo.len] at hGl; omega
        | cons k' n' u' ps' r' =>
          simp only [Fo.len] at hGl
          exact tyV_cons.2 ⟨c, 0, cp, by rw [← hGl]; rfl, by omega, hcm, by omega, hC⟩
  · intro b hb hbT
    refine ⟨(hfr b hb (hk b 0 hb hbT).1).1, fun off ha => ?_⟩
    have hA1 : Aside Hs b off := fun x hx => ha x (List.mem_append_left _ hx)
    have hA2 : Aside [h] b off := fun x hx => ha x (List.mem_append_right _ hx)
    rw [(hfr b hb (hk b off hb hbT).1).2 off (out b off hbT.lt hA1)]
    exact (hk b off hb hbT).2 hA2
/-- A hole whose type has a bind becomes what was made of that, in new memory. -/
theorem WandS.fill {s : Sg} {T : TypeId} {rt B rb : Nat} {X : Int × Int × Fo} {w wc w2 : World} {Hs : List Hole} {h : Hole} (hW : WandS s T rt B rb X w (Hs ++ [h]))
    (hap : ∀ x ∈ Hs, Apart x h) (hB : B ≤ h.b) (hBw : B ≤ w.heap.size) (hT : isT T rt w h.b) (hHs : ∀ x ∈ Hs, x.b < w.heap.size) (hrt : rt < w.heap.size)
    (hs : w.heap.size ≤ w2.heap.size) (hk : ∀ b off, B ≤ b → isT T rt w b → isT T rt w2 b ∧ (Aside [h] b off → w2.cell? ⟨b, off, none⟩ = w.cell? ⟨b, off, none⟩))
    {x : Int × Int × Fo} (hx : tgt s h = x) {u2 : Sl} (h0 : w2.cell? ⟨h.b, h.off, none⟩ = some (.int .i64 x.1)) (h1 : w2.cell? ⟨h.b, h.off + 1, none⟩ = some (.int .i64 x.2.1)) (h2 : w2.cell? ⟨h.b, h.off + 2, none⟩ = some (slv u2))
    (hsc : wc.heap.size ≤ w2.heap.size) (hF : FreshP T w.heap.size wc x.2.2 u2) (hwc : ∀ (b : Nat) (cs : Array Value), w.heap.size ≤ b → wc.heap[b]? = some (Obj.cells cs T) → w2.heap[b]? = some (Obj.cells cs T)) :
    WandS s T rt B rb X w2 Hs := by
  intro W hsz hdone hfr
  have inH : ∀ j, j < 3 → Aside Hs h.b (h.off + j) := by
    intro j hj x hx hxb
    rcases hap x hx hxb with h' | h'
    · exact .inr (by omega)
    · exact .inl (by omega)
  have hat : ∀ j, j < 3 → W.cell? ⟨h.b, h.off + j, none⟩ = w2.cell? ⟨h.b, h.off + j, none⟩ := fun j hj => (hfr h.b hB (hk h.b 0 hB hT).1).2 _ (inH j hj)
  refine hW W (Nat.le_trans hs hsz) ?_ ?_
  · intro y hy
    rcases List.mem_append.1 hy with hy | hy
    · exact hdone y hy
    · have hxh : y = h := by simpa using hy
      rw [hxh]
      obtain ⟨g, hg, hv⟩ := hF W (Nat.le_trans hsc hsz) fun b cs hb hcs => by
        have h2s := hwc b cs hb hcs
        have hbT : isT T rt w2 b := ⟨by omega, cs, h2s⟩
        obtain ⟨⟨_, cs', hW'⟩, hcell⟩ := hfr b (Nat.le_trans hBw hb) hbT
        have := block_same h2s hW' fun off => hcell off fun z hz hzb => by have := hHs z hz; omega
        rw [hW', this]
      exact ⟨g, by rw [hx]; exact hg, by rw [hx]; exact (hat 0 (by omega)).trans h0, by rw [hx]; exact (hat 1 (by omega)).trans h1, u2, (hat 2 (by omega)).trans h2, hv⟩
  · intro b hb hbT
    refine ⟨(hfr b hb (hk b 0 hb hbT).1).1, fun off ha => ?_⟩
    have hA1 : Aside Hs b off := fun x hx => ha x (List.mem_append_left _ hx)
    have hA2 : Aside [h] b off := fun x hx => ha x (List.mem_append_right _ hx)
    rw [(hfr b hb (hk b off hb hbT).1).2 off hA1]
    exact (hk b off hb hbT).2 hA2
theorem holesOf_wf (c off : Nat) (f : Fo) (hf : f.wf) : ∀ h ∈ holesOf c off f, (Lit.int .i64 h.n).wf = true ∧ h.ps.wf := by
  induction f generalizing off with
  | nil => intro h hh; simp [holesOf] at hh
  | cons k n u ps r _ ih =>
    intro h hh
    simp only [holesOf, List.mem_cons] at hh
    rcases hh with rfl | hh
    · exact ⟨hf.1, hf.2.1⟩
    · exact ih (off + 3) hf.2.2 h hh
/-- A hole whose numbers are such as an int may be. -/
def HoleW (h : Hole) : Prop := (Lit.int .i64 h.n).wf = true ∧ h.ps.wf
/-- Between two rounds. -/
def SbInv (s : Sg) (T P : TypeId) (w0 : World) (rt rb : Nat) (X : Int × Int × Fo) (t : Value) (w : World) (m : Nat) : Prop :=
  ∃ Hs : List Hole, left_ Hs = m ∧ m ≤ 1000000 ∧ w.ownsRow w0.heap.size P 1 t Hs.length (ptrs Hs) ∧ (∀ h ∈ Hs, HoleAt T rt w0.heap.size w h ∧ HoleW h) ∧ Hs.Pairwise Apart ∧
    WandS s T rt w0.heap.size rb X w Hs ∧ Below w0.heap.size w0 w ∧ w.heap[rt]? = some (Obj.cells rt0 T) ∧ w0.heap.size ≤ rt ∧ isT T rt w rb
/-- What a step that touches one hole leaves of the others. -/
theorem hole_kept {T : TypeId} {rt B : Nat} {h x : Hole} {w w' : World} (t : Tch T rt B h w w') (hx : HoleAt T rt B w x) (ha : Apart x h) : HoleAt T rt B w' x := by
  obtain ⟨xB, xT, x0, x1, x2, xv⟩ := hx
  have has : ∀ j, j < 3 → Aside [h] x.b (x.off + j) := by
    intro j hj y hy hyb
    have hyh : y = h := by simpa using hy
    rw [hyh] at hyb ⊢
    rcases ha hyb.symm with h' | h'
    · exact .inl (by omega)
    · exact .inr (by omega)
  exact ⟨xB, t.kept _ xT, (t.cell _ _ xT (has 0 (by omega))).trans x0, (t.cell _ _ xT (has 1 (by omega))).trans x1, (t.cell _ _ xT (has 2 (by omega))).trans x2, xv.below t.below⟩
/-- A round that leaves a type's parts to be done. -/
theorem sb_step {s : Sg} {T P : TypeId} {w : World} {rt rb : Nat} {X : Int × Int × Fo} {wr w5 : World} {Hq : List Hole} {h : Hole} {t5 : Value} {c m : Nat} {u2 : Sl}
    (hat : ∀ x ∈ Hq ++ [h], HoleAt T rt w.heap.size wr x ∧ HoleW x) (hap : (Hq ++ [h]).Pairwise Apart) (hwd : WandS s T rt w.heap.size rb X wr (Hq ++ [h])) (hb : Below w.heap.size w wr) (hrt : wr.heap[rt]? = some (Obj.cells rt0 T)) (hrt2 : w.heap.size ≤ rt) (hrb : Go.Proofs.YtifdbmdfkhnojaaDoor.isT T rt wr rb)
    (hsm : left_ (Hq ++ [h]) ≤ 1000000) (hn : h.k = 1 → s h.n = none) (t : Tch T rt w.heap.size h wr w5) (hm : h.ps.len = m) (hc : wr.heap.size ≤ c)
    (c0 : w5.cell? ⟨h.b, h.off, none⟩ = some (.int .i64 h.k)) (c1 : w5.cell? ⟨h.b, h.off + 1, none⟩ = some (.int .i64 h.n)) (c2 : w5.cell? ⟨h.b, h.off + 2, none⟩ = some (slv u2))
    (hu : (m = 0 ∧ ∃ A cp, u2 = (A, 0, cp)) ∨ (0 < m ∧ (∃ cs, w5.heap[c]? = some (Obj.cells cs T)) ∧ (∀ j u, (h.ps.top.flatMap trC)[j]? = some u → w5.cell? ⟨c, j, none⟩ = some u) ∧ ∃ cp, u2 = (some ⟨c, 0, none⟩, m, cp) ∧ m ≤ cp ∧ cp ≤ maxLen))
    (hown : w5.ownsRow w.heap.size P 1 t5 (Hq.length + m) (ptrs Hq ++ ptrs (holesOf c 0 h.ps))) : SbInv s T P w rt rb X t5 w5 (left_ Hq + h.ps.size) := by
  subst hm
  obtain ⟨⟨hbB, hT, d0, d1, d2, hv⟩, hwn, hwp⟩ := hat h (List.mem_append_right _ (List.mem_singleton.2 rfl))
  have hrl : rt < wr.heap.size := (Array.getElem?_eq_some_iff.1 hrt).1
  have hpa : ∀ x ∈ Hq, Apart x h := fun x hx => (List.pairwise_append.1 hap).2.2 x hx h (List.mem_singleton.2 rfl)
  have hlt : ∀ x ∈ Hq, x.b < wr.heap.size := fun x hx => (hat x (List.mem_append_left _ hx)).1.2.1.lt
  refine ⟨Hq ++ holesOf c 0 h.ps, by rw [left_app, left_holes], ?_, by rw [List.length_append, holesOf_len, ptrs_app]; exact hown, ?_, ?_, ?_, hb.trans t.below, t.rt _ hrt, hrt2, t.kept _ hrb⟩
  · rw [left_app] at hsm
    simp only [left_, List.map_cons, List.map_nil, List.sum_cons, List.sum_nil] at hsm ⊢
    omega
  · intro x hx
    rcases List.mem_append.1 hx with hx | hx
    · have := hat x (List.mem_append_left _ hx)
      exact ⟨hole_kept t this.1 (hpa x hx), this.2⟩
    · refine ⟨?_, holesOf_wf c 0 h.ps hwp x hx⟩
      rcases hu with ⟨h0, _⟩ | ⟨_, hcT, hcc, _⟩
      · exfalso
        have := holesOf_len c 0 h.ps
        rw [h0] at this
        rw [List.eq_nil_of_length_eq_zero this] at hx
        cases hx
      · exact holes_at (Nat.le_trans hb.size hc) ⟨by omega, hcT⟩ h.ps 0 (fun j u hj => by rw [Nat.zero_add]; exact hcc j u hj) (hv.list.below t.below) x hx
  · refine List.pairwise_append.2 ⟨(List.pairwise_append.1 hap).1, holesOf_apart _ _ _, fun x hx y hy e => ?_⟩
    have := hlt x hx
    have := (holesOf_b hy).1
    omega
  · refine hwd.step hn hpa hbB hT t.below.size (fun b off _ hbT => ⟨t.kept b hbT, fun ha => t.cell b off hbT ha⟩) c0 c1 c2 hc ?_
    rcases hu with h0 | ⟨hp, ⟨cs, hcs⟩, _, cp, e, h1, h2⟩
    · exact .inl h0
    · exact .inr ⟨hp, (Array.getElem?_eq_some_iff.1 hcs).1, cp, e, h1, h2⟩
/-- A round that lays what a variable became. -/
theorem sb_fill {s : Sg} {T P : TypeId} {w : World} {rt rb : Nat} {X : Int × Int × Fo} {wr wc w5 : World} {Hq : List Hole} {h : Hole} {t5 : Value} {u2 : Sl} {x : Int × Int × Fo}
    (hat : ∀ x ∈ Hq ++ [h], HoleAt T rt w.heap.size wr x ∧ HoleW x) (hap : (Hq ++ [h]).Pairwise Apart) (hwd : WandS s T rt w.heap.size rb X wr (Hq ++ [h])) (hb : Below w.heap.size w wr) (hrt : wr.heap[rt]? = some (Obj.cells rt0 T)) (hrt2 : w.heap.size ≤ rt) (hrb : Go.Proofs.YtifdbmdfkhnojaaDoor.isT T rt wr rb)
    (hsm : left_ (Hq ++ [h]) ≤ 1000000) (t : Tch T rt w.heap.size h wr w5) (hx : tgt s h = x)
    (c0 : w5.cell? ⟨h.b, h.off, none⟩ = some (.int .i64 x.1)) (c1 : w5.cell? ⟨h.b, h.off + 1, none⟩ = some (.int .i64 x.2.1)) (c2 : w5.cell? ⟨h.b, h.off + 2, none⟩ = some (slv u2))
    (hsc : wc.heap.size ≤ w5.heap.size) (hF : FreshP T wr.heap.size wc x.2.2 u2) (hwc : ∀ (b : Nat) (cs : Array Value), wr.heap.size ≤ b → wc.heap[b]? = some (Obj.cells cs T) → w5.heap[b]? = some (Obj.cells cs T))
    (hown : w5.ownsRow w.heap.size P 1 t5 Hq.length (ptrs Hq)) : SbInv s T P w rt rb X t5 w5 (left_ Hq) := by
  obtain ⟨⟨hbB, hT, d0, d1, d2, hv⟩, hwn, hwp⟩ := hat h (List.mem_append_right _ (List.mem_singleton.2 rfl))
  have hrl : rt < wr.heap.size := (Array.getElem?_eq_some_iff.1 hrt).1
  have hpa : ∀ x ∈ Hq, Apart x h := fun x hx => (List.pairwise_append.1 hap).2.2 x hx h (List.mem_singleton.2 rfl)
  have hlt : ∀ x ∈ Hq, x.b < wr.heap.size := fun x hx => (hat x (List.mem_append_left _ hx)).1.2.1.lt
  refine ⟨Hq, rfl, ?_, hown, ?_, (List.pairwise_append.1 hap).1, ?_, hb.trans t.below, t.rt _ hrt, hrt2, t.kept _ hrb⟩
  · rw [left_app] at hsm
    omega
  · intro x hx
    have := hat x (List.mem_append_left _ hx)
    exact ⟨hole_kept t this.1 (hpa x hx), this.2⟩
  · exact hwd.fill hpa hbB hb.size hT hlt hrl t.below.size (fun b off _ hbT => ⟨t.kept b hbT, fun ha => t.cell b off hbT ha⟩) hx c0 c1 c2 hsc hF hwc
end Go.Proofs.YtifdbmdfkhnojaaDoor
