/- Texts of one proof, one behind the other. -/
import Derived.Test.YtifdbmdfkhnojaaDoorMgSubstAlike18
import Derived.Test.YtifdbmdfkhnojaaDoorMgSubstAlike6
import Derived.Test.YtifdbmdfkhnojaaDoorMgSubstAlike9
import Derived.Test.YtifdbmdfkhnojaaDoorMgSubstAlike7
import Derived.Test.YtifdbmdfkhnojaaDoorMgSubstAlike12
import Derived.Deep.RegionHeld3
import Derived.Handy
import Derived.Test.YtifdbmdfkhnojaaDoorMgSubstAlike3
import Derived.Deep.RegionLaw
/- The chapter's example: what is asked of it besides. -/
namespace Go.Proofs.YtifdbmdfkhnojaaDoor
open Go.RowKit Go.Shelf

theorem Img.txts {f g : Fo} (h : Img idn f g) : g.txts = f.txts := by
  induction f generalizing g with
  | nil => cases g <;> simp_all [Img, Fo.txts]
  | cons k n u ps r ih1 ih2 =>
    cases g with
    | nil => simp [Img] at h
    | cons k' n' u' ps' r' =>
      simp only [Img, nm_id] at h
      obtain ⟨rfl, rfl, h3, h4⟩ := h
      simp only [Fo.txts, ih1 h3, ih2 h4]
theorem Img.ok {f g : Fo} (h : Img idn f g) : g.ok = f.ok := by
  induction f generalizing g with
  | nil => cases g <;> simp_all [Img, Fo.ok]
  | cons k n u ps r ih1 ih2 =>
    cases g with
    | nil => simp [Img] at h
    | cons k' n' u' ps' r' =>
      have hl := (show ps'.len = ps.len from Img.len (num := idn) (by simp only [Img] at h; exact h.2.2.1))
      simp only [Img, nm_id] at h
      obtain ⟨rfl, rfl, h3, h4⟩ := h
      simp only [Fo.ok, ih1 h3, ih2 h4, hl]
theorem Img.trans {f g h : Fo} (a : Img idn f g) (b : Img idn g h) : Img idn f h := by
  induction f generalizing g h with
  | nil =>
    cases g with
    | nil => exact b
    | cons => simp [Img] at a
  | cons k n u ps r ih1 ih2 =>
    cases g with
    | nil => simp [Img] at a
    | cons k' n' u' ps' r' =>
      cases h with
      | nil => simp [Img] at b
      | cons k2 n2 u2 ps2 r2 =>
        simp only [Img, nm_id] at a b ⊢
        exact ⟨b.1.trans a.1, b.2.1.trans a.2.1, ih1 a.2.2.1 b.2.2.1, ih2 a.2.2.2 b.2.2.2⟩
theorem Img.same {f g : Fo} (h : Img idn f g) : f.same g = true := by
  induction f generalizing g with
  | nil => cases g <;> simp_all [Img, Fo.same]
  | cons k n u ps r ih1 ih2 =>
    cases g with
    | nil => simp [Img] at h
    | cons k' n' u' ps' r' =>
      simp only [Img, nm_id] at h
      obtain ⟨rfl, rfl, h3, h4⟩ := h
      simp [Fo.same, ih1 h3, ih2 h4]
/-- Two types at an address. -/
theorem two_cells {X : World} (g cp : Nat) (k0 n0 k1 n1 : Int) (u0 u1 : Sl) (f0 f1 : Fo) (hg : g < X.heap.size) (hcp : 2 ≤ cp) (hcm : cp ≤ maxLen) (c0 : X.cell? ⟨g, 0, none⟩ = some (.int .i64 k0)) (c1 : X.cell? ⟨g, 1, none⟩ = some (.int .i64 n0)) (c2 : X.cell? ⟨g, 2, none⟩ = some (slv u0)) (c3 : X.cell? ⟨g, 3, none⟩ = some (.int .i64 k1)) (c4 : X.cell? ⟨g, 4, none⟩ = some (.int .i64 n1)) (c5 : X.cell? ⟨g, 5, none⟩ = some (slv u1)) (h0 : TyV X.heap.size X f0 (slv u0)) (h1 : TyV X.heap.size X f1 (slv u1)) : TyV X.heap.size X (.cons k0 n0 u0 f0 (.cons k1 n1 u1 f1 .nil)) (.slice (some ⟨g, 0, none⟩) 2 cp) :=
  tyV_cons.2 ⟨g, 0, cp, rfl, hcp, hcm, hg, tyC_cons.2 ⟨c0, c1, c2, h0, tyC_cons.2 ⟨c3, c4, c5, h1, tyC_nil⟩⟩⟩
theorem no_parts (B : Nat) (w : World) : TyV B w .nil (slv (none, 0, 0)) := tyV_nil.2 ⟨none, 0, rfl⟩
set_option maxRecDepth 100000 in
theorem var_any (n : Int) (w : World) : Calls Tryd.prog 32 #[.int .i64 n] w fun e w' => e = .returned (tyVal 1 n (.slice none 0 0)) ∧ Below w.heap.size w w' := by
  obtain ⟨w1, hw1⟩ : ∃ w1, w.alloc (.cells rt0 25) = w1 := ⟨_, rfl⟩
  have hb1 : Below w.heap.size w w1 := by rw [← hw1]; exact (Below.refl _ _).alloc (Nat.le_refl _) _
  have hx1 : w1.heap[w.heap.size]? = some (Obj.cells rt0 25) := by rw [← hw1]; exact heap_alloc_new w _
  obtain ⟨r0, r1, r2, z0, z1, z2, w2, hw2, hld, hsz, hfar, hbl⟩ := ret_cells (w := w1) w.heap.size 1 n (none, 0, 0) hx1
  have HLD := Lib.hid hld
  have HB := Lib.hid (hb1.trans hbl)
  unfold rt0 at hw1
  clear hld hfar hbl hb1 hx1
  dsimp only [slv] at hw2
  go_enter Tryd.func32, Tryd.ntmps32
  go_wp2
  refine bodyPost_ret (results_box rfl _ _ _ _ rfl HLD.out) rfl ?_
  exact ⟨rfl, HB.out⟩
end Go.Proofs.YtifdbmdfkhnojaaDoor
/- The chapter's example. -/
namespace Go.Proofs.YtifdbmdfkhnojaaDoor
open Go.RowKit Go.Shelf

/-- A variable, an int. -/
def F11 : Fo := .cons 1 0 (none, 0, 0) .nil (.cons 2 0 (none, 0, 0) .nil .nil)
/-- A variable, a bool. -/
def F14 : Fo := .cons 1 0 (none, 0, 0) .nil (.cons 3 0 (none, 0, 0) .nil .nil)
/-- The example's parts. -/
def FEx : Fo := .cons 4 0 (none, 0, 0) F11 (.cons 5 0 (none, 0, 0) F14 .nil)
/-- An arrow of two, told of a world. -/
theorem arrow_two (X : World) (g cp : Nat) (k0 n0 k1 n1 : Int) (u0 u1 : Sl) (f0 f1 : Fo) (hg : g < X.heap.size) (hcp : 2 ≤ cp) (hcm : cp ≤ maxLen) (c0 : X.cell? ⟨g, 0, none⟩ = some (.int .i64 k0)) (c1 : X.cell? ⟨g, 1, none⟩ = some (.int .i64 n0)) (c2 : X.cell? ⟨g, 2, none⟩ = some (slv u0)) (c3 : X.cell? ⟨g, 3, none⟩ = some (.int .i64 k1)) (c4 : X.cell? ⟨g, 4, none⟩ = some (.int .i64 n1)) (c5 : X.cell? ⟨g, 5, none⟩ = some (slv u1)) (h0 : TyV X.heap.size X f0 (slv u0)) (h1 : TyV X.heap.size X f1 (slv u1)) (hs : f0.size + f1.size < 1000) :
    Calls Tryd.prog 31 #[.slice (some ⟨g, 0, none⟩) 2 cp] X fun e w' => ∃ u' : Sl, e = .returned (tyVal 4 0 (slv u')) ∧ Below X.heap.size X w' ∧ FreshT 25 X.heap.size w' idn (.cons k0 n0 u0 f0 (.cons k1 n1 (none, 0, 0) f1 .nil)) u' := by
  have h := arrow_any X _ _ (two_cells g cp k0 n0 k1 n1 u0 u1 f0 f1 hg hcp hcm c0 c1 c2 c3 c4 c5 h0 h1) (by simp only [Fo.size]; omega)
  simpa [Fo.arrF, Fo.len] using h
theorem have_of {p q goal : Prop} (f : p → q) (hp : p) (k : q → goal) : goal := k (f hp)
theorem cellAll {B : Nat} {w w' : World} (h : Below B w w') (a : Nat) (ha : a < B) : ∀ off, w'.cell? ⟨a, off, none⟩ = w.cell? ⟨a, off, none⟩ := fun _ => h.cell (p := ⟨a, _, none⟩) ha
theorem frozenAll {B : Nat} {w w' : World} (h : Below B w w') (a : Nat) (ha : a < B) : ∀ off, w'.frozen? ⟨a, off, none⟩ = w.frozen? ⟨a, off, none⟩ := fun _ => h.frozen (p := ⟨a, _, none⟩) ha
theorem FreshT.img {T : TypeId} {B : Nat} {w : World} {f g : Fo} {u : Sl} (h : FreshT T B w idn g u) (hi : Img idn f g) : FreshT T B w idn f u := fun W hs hk => by
  obtain ⟨g', hg', ht⟩ := h W hs hk
  exact ⟨g', hi.trans hg', ht⟩
/-- The second arrow: of what the first one gave, and a tuple. -/
theorem arrow_snd (Y w3 : World) (B : Nat) (v : Sl) (hf : FreshT 25 B w3 idn F11 v) (g g14 : Nat) (c5 : Y.cell? ⟨g, 5, none⟩ = some (.slice (some ⟨g14, 0, none⟩) 2 2)) (hb : Below w3.heap.size w3 Y) (hg : g < Y.heap.size) (hg14 : g14 < Y.heap.size)
    (c0 : Y.cell? ⟨g, 0, none⟩ = some (.int .i64 4)) (c1 : Y.cell? ⟨g, 1, none⟩ = some (.int .i64 0)) (c2 : Y.cell? ⟨g, 2, none⟩ = some (.slice v.1 v.2.1 v.2.2)) (c3 : Y.cell? ⟨g, 3, none⟩ = some (.int .i64 5)) (c4 : Y.cell? ⟨g, 4, none⟩ = some (.int .i64 0))
    (d0 : Y.cell? ⟨g14, 0, none⟩ = some (.int .i64 1)) (d1 : Y.cell? ⟨g14, 1, none⟩ = some (.int .i64 0)) (d2 : Y.cell? ⟨g14, 2, none⟩ = some (.slice none 0 0)) (d3 : Y.cell? ⟨g14, 3, none⟩ = some (.int .i64 3)) (d4 : Y.cell? ⟨g14, 4, none⟩ = some (.int .i64 0)) (d5 : Y.cell? ⟨g14, 5, none⟩ = some (.slice none 0 0)) :
    Calls Tryd.prog 31 #[.slice (some ⟨g, 0, none⟩) 2 2] Y fun e w' => ∃ u' : Sl, e = .returned (tyVal 4 0 (slv u')) ∧ Below Y.heap.size Y w' ∧ FreshT 25 Y.heap.size w' idn FEx u' := by
  obtain ⟨G, hG, hT⟩ := (hf.below hb).now
  have hGs := hG.size
  have hFs : F11.size = 2 := by decide
  have hFs4 : F14.size = 2 := by decide
  have h14 : TyV Y.heap.size Y F14 (slv (some ⟨g14, 0, none⟩, 2, 2)) := two_cells g14 2 1 0 3 0 (none, 0, 0) (none, 0, 0) .nil .nil hg14 (Nat.le_refl _) (by unfold maxLen; omega) d0 d1 d2 d3 d4 d5 (no_parts _ _) (no_parts _ _)
  refine (arrow_two Y g 2 4 0 5 0 v (some ⟨g14, 0, none⟩, 2, 2) G F14 hg (Nat.le_refl _) (by unfold maxLen; omega) c0 c1 c2 c3 c4 c5 hT h14 (by omega)).mono ?_
  rintro e w' ⟨u', rfl, hb', hf'⟩
  exact ⟨u', rfl, hb', hf'.img ⟨rfl, rfl, hG, rfl, rfl, ⟨rfl, rfl, trivial, rfl, rfl, trivial, trivial⟩, trivial⟩⟩
/-- The first arrow. -/
theorem arrow_fst (X : World) (g : Nat) (hg : g < X.heap.size) (c0 : X.cell? ⟨g, 0, none⟩ = some (.int .i64 1)) (c1 : X.cell? ⟨g, 1, none⟩ = some (.int .i64 0)) (c2 : X.cell? ⟨g, 2, none⟩ = some (.slice none 0 0)) (c3 : X.cell? ⟨g, 3, none⟩ = some (.int .i64 2)) (c4 : X.cell? ⟨g, 4, none⟩ = some (.int .i64 0)) (c5 : X.cell? ⟨g, 5, none⟩ = some (.slice none 0 0)) :
    Calls Tryd.prog 31 #[.slice (some ⟨g, 0, none⟩) 2 2] X fun e w' => ∃ u' : Sl, e = .returned (tyVal 4 0 (slv u')) ∧ Below X.heap.size X w' ∧ FreshT 25 X.heap.size w' idn F11 u' :=
  arrow_two X g 2 1 0 2 0 (none, 0, 0) (none, 0, 0) .nil .nil hg (Nat.le_refl _) (by unfold maxLen; omega) c0 c1 c2 c3 c4 c5 (no_parts _ _) (no_parts _ _) (by simp [Fo.size])
theorem example_txt : oneT 4 0 FEx.txts = [40, 39, 97, 32, 45, 62, 32, 105, 110, 116, 41, 32, 45, 62, 32, 40, 39, 97, 32, 42, 32, 98, 111, 111, 108, 41] := by
  have h0 : nameB 0 = [39, 97] := by decide
  simp [FEx, F11, F14, Fo.txts, oneT, brk, sepT, h0]
theorem example_ok : (alone 4 0 FEx.len && FEx.ok) = true := by decide
theorem example_size : FEx.size = 6 := by decide
theorem FreshT.set {T : TypeId} {B : Nat} {w : World} {f : Fo} {u : Sl} (h : FreshT T B w idn f u) (g j : Nat) (v : Value) (hg : g < B) : FreshT T B (w.setCell ⟨g, j, none⟩ v) idn f u :=
  h.to (by simp) fun b _ hb hl => (Below.heap_setCell _ _ _ _ (by simp only; omega)).trans hl
theorem fin_world {K : Exit → Act → World → Prop} {x : Exit} {t0 t1 t2 t3 : Value} {rest : List Value} {ds : List Deferred} {g : Nat} {W : World} (R : World → Nat → Prop) (h : R W g) (k : ∀ Z g, R Z g → K x ⟨(t0 :: t1 :: t2 :: t3 :: Value.pointer (some ⟨g, 0, none⟩) :: rest).toArray, ds⟩ Z) : K x ⟨(t0 :: t1 :: t2 :: t3 :: Value.pointer (some ⟨g, 0, none⟩) :: rest).toArray, ds⟩ W := k W g h
theorem cells3 (w : World) (g : Nat) (a b c x y z : Value) (h0 : w.cell? ⟨g, 0, none⟩ = some x) (h1 : w.cell? ⟨g, 1, none⟩ = some y) (h2 : w.cell? ⟨g, 2, none⟩ = some z) :
    (((w.setCell ⟨g, 0, none⟩ a).setCell ⟨g, 1, none⟩ b).setCell ⟨g, 2, none⟩ c).cell? ⟨g, 0, none⟩ = some a ∧ (((w.setCell ⟨g, 0, none⟩ a).setCell ⟨g, 1, none⟩ b).setCell ⟨g, 2, none⟩ c).cell? ⟨g, 1, none⟩ = some b ∧ (((w.setCell ⟨g, 0, none⟩ a).setCell ⟨g, 1, none⟩ b).setCell ⟨g, 2, none⟩ c).cell? ⟨g, 2, none⟩ = some c := by
  refine ⟨by go_simp, by go_simp, by go_simp⟩
/-- What the three say of the example. -/
theorem example_said {B : Nat} {w : World} {G : Fo} {v : Sl} (hi : Img idn FEx G) (ht : TyV B w G (slv v)) :
    (if alone 4 0 G.len && G.ok then oneT 4 0 G.txts else []) = [40, 39, 97, 32, 45, 62, 32, 105, 110, 116, 41, 32, 45, 62, 32, 40, 39, 97, 32, 42, 32, 98, 111, 111, 108, 41] ∧ allAlone (Fo.cons 4 0 v G .nil).pre = true ∧ G.size = 6 := by
  have hok : (alone 4 0 G.len && G.ok) = true := by rw [hi.len, hi.ok]; exact example_ok
  refine ⟨?_, ?_, hi.size.trans example_size⟩
  · rw [if_pos hok, hi.txts, example_txt]
  · have h2 := allAlone_ok G ht.list
    have hl : v.2.1 = G.len := by
      obtain ⟨A, c, hs⟩ := ht.slice
      obtain ⟨v1, v2, v3⟩ := v
      simp only [slv, Value.slice.injEq] at hs
      exact hs.2.1
    simp only [Bool.and_eq_true] at hok
    simp only [Fo.pre, List.append_nil]
    show (alone 4 0 v.2.1 && allAlone G.pre) = true
    rw [hl, hok.1, h2.trans hok.2]
    rfl
end Go.Proofs.YtifdbmdfkhnojaaDoor
/- An append as one step of a region that draws, by its run. Nothing here speaks of the program. -/
namespace Go.Proofs.YtifdbmdfkhnojaaDoor
open Go.RowKit
theorem step_app {P : Program} {ops : Array Oper} {o : Oper} {a : Act} {w : World} {K : Act → World → Prop} {Q : Exit → Act → World → Prop} {E : Prop} (hgd : o.guard = none) (s x : Operand) (t : TypeId)
    (ho : o.op = .call { callee := .builtin .append, args := #[s, x], argTypes := #[t, t] }) {vs vx v' : Value} {w' : World} (hrun : (app_ #[t, t] o.type #[vs, vx]).run P w = .ok v' w')
    (hs : a.eval s = vs) (hx : a.eval x = vx) (h : K (a.put o.dst v') w') : if Region.wanted o (yielded ops a.tmps) = true then Oper.wp P o a w K Q else E := by
  have hw : Region.wanted o (yielded ops a.tmps) = true := by simp [Region.wanted, hgd]
  rw [if_pos hw]
  have hrun2 : (Builtin.append_ #[t, t] o.type #[vs, vx]).run P w = .ok v' w' := hrun
  unfold Oper.wp
  simp [execOp, ho, resolve, invoke, builtin, hs, hx, hrun2, Result.andThen]
  exact h
end Go.Proofs.YtifdbmdfkhnojaaDoor
