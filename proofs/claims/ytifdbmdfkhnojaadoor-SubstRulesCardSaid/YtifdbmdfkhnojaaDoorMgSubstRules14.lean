/- Texts of one proof, one behind the other. -/
import Derived.Test.YtifdbmdfkhnojaaDoorMgSubstRules13
import Derived.Test.YtifdbmdfkhnojaaDoorMgSubstRules5
import Derived.Test.YtifdbmdfkhnojaaDoorMgSubstRules8
import Derived.Test.YtifdbmdfkhnojaaDoorMgSubstRules6
import Derived.Test.YtifdbmdfkhnojaaDoorMgSubstRules9
import Derived.Deep.RegionHeld3
import Derived.Handy
import Derived.Test.YtifdbmdfkhnojaaDoorMgSubstRules3
import Derived.Deep.RegionLaw
/- The chapter's example: what is asked of it besides. -/
namespace Go.Proofs.YtifdbmdfkhnojaaDoor
open Go.RowKit Go.Shelf

theorem Img.txts {f g : Fo} (h : Img idn f g) : g.txts = f.txts := by
  induction f generalizing g with
  | nil => cases g <;> simp_all [Img, Fo.txts]
  | cons k n u ps r ih1 ih2 =>
    cases g with
    | nil => simp [Img] at h
    | cons k' n' u' ps' r' =>
      simp only [Img, nm_id] at h
      obtain ⟨rfl, rfl, h3, h4⟩ := h
      simp only [Fo.txts, ih1 h3, ih2 h4]
theorem Img.ok {f g : Fo} (h : Img idn f g) : g.ok = f.ok := by
  induction f generalizing g with
  | nil => cases g <;> simp_all [Img, Fo.ok]
  | cons k n u ps r ih1 ih2 =>
    cases g with
    | nil => simp [Img] at h
    | cons k' n' u' ps' r' =>
      have hl := (show ps'.len = ps.len from Img.len (num := idn) (by simp only [Img] at h; exact h.2.2.1))
      simp only [Img, nm_id] at h
      obtain ⟨rfl, rfl, h3, h4⟩ := h
      simp only [Fo.ok, ih1 h3, ih2 h4, hl]
theorem Img.trans {f g h : Fo} (a : Img idn f g) (b : Img idn g h) : Img idn f h := by
  induction f generalizing g h with
  | nil =>
    cases g with
    | nil => exact b
    | cons => simp [Img] at a
  | cons k n u ps r ih1 ih2 =>
    cases g with
    | nil => simp [Img] at a
    | cons k' n' u' ps' r' =>
      cases h with
      | nil => simp [Img] at b
      | cons k2 n2 u2 ps2 r2 =>
        simp only [Img, nm_id] at a b ⊢
        exact ⟨b.1.trans a.1, b.2.1.trans a.2.1, ih1 a.2.2.1 b.2.2.1, ih2 a.2.2.2 b.2.2.2⟩
theorem Img.same {f g : Fo} (h : Img idn f g) : f.same g = true := by
  induction f generalizing g with
  | nil => cases g <;> simp_all [Img, Fo.same]
  | cons k n u ps r ih1 ih2 =>
    cases g with
    | nil => simp [Img] at h
    | cons k' n' u' ps' r' =>
      simp only [Img, nm_id] at h
      obtain ⟨rfl, rfl, h3, h4⟩ := h
      simp [Fo.same, ih1 h3, ih2 h4]
/-- Two types at an address. -/
theorem two_cells {X : World} (g cp : Nat) (k0 n0 k1 n1 : Int) (u0 u1 : Sl) (f0 f1 : Fo) (hg : g < X.heap.size) (hcp : 2 ≤ cp) (hcm : cp ≤ maxLen) (c0 : X.cell? ⟨g, 0, none⟩ = some (.int .i64 k0)) (c1 : X.cell? ⟨g, 1, none⟩ = some (.int .i64 n0)) (c2 : X.cell? ⟨g, 2, none⟩ = some (slv u0)) (c3 : X.cell? ⟨g, 3, none⟩ = some (.int .i64 k1)) (c4 : X.cell? ⟨g, 4, none⟩ = some (.int .i64 n1)) (c5 : X.cell? ⟨g, 5, none⟩ = some (slv u1)) (h0 : TyV X.heap.size X f0 (slv u0)) (h1 : TyV X.heap.size X f1 (slv u1)) : TyV X.heap.size X (.cons k0 n0 u0 f0 (.cons k1 n1 u1 f1 .nil)) (.slice (some ⟨g, 0, none⟩) 2 cp) :=
  tyV_cons.2 ⟨g, 0, cp, rfl, hcp, hcm, hg, tyC_cons.2 ⟨c0, c1, c2, h0, tyC_cons.2 ⟨c3, c4, c5, h1, tyC_nil⟩⟩⟩
theorem no_parts (B : Nat) (w : World) : TyV B w .nil (slv (none, 0, 0)) := tyV_nil.2 ⟨none, 0, rfl⟩
set_option maxRecDepth 100000 in
theorem var_any (n : Int) (w : World) : Calls Tryd.prog 32 #[.int .i64 n] w fun e w' => e = .returned (tyVal 1 n (.slice none 0 0)) ∧ Below w.heap.size w w' := by
  obtain ⟨w1, hw1⟩ : ∃ w1, w.alloc (.cells rt0 25) = w1 := ⟨_, rfl⟩
  have hb1 : Below w.heap.size w w1 := by rw [← hw1]; exact (Below.refl _ _).alloc (Nat.le_refl _) _
  have hx1 : w1.heap[w.heap.size]? = some (Obj.cells rt0 25) := by rw [← hw1]; exact heap_alloc_new w _
  obtain ⟨r0, r1, r2, z0, z1, z2, w2, hw2, hld, hsz, hfar, hbl⟩ := ret_cells (w := w1) w.heap.size 1 n (none, 0, 0) hx1
  have HLD := Lib.hid hld
  have HB := Lib.hid (hb1.trans hbl)
  unfold rt0 at hw1
  clear hld hfar hbl hb1 hx1
  dsimp only [slv] at hw2
  go_enter Tryd.func32, Tryd.ntmps32
  go_wp2
  refine bodyPost_ret (results_box rfl _ _ _ _ rfl HLD.out) rfl ?_
  exact ⟨rfl, HB.out⟩
end Go.Proofs.YtifdbmdfkhnojaaDoor
/- The chapter's example. -/
namespace Go.Proofs.YtifdbmdfkhnojaaDoor
open Go.RowKit Go.Shelf

/-- A variable, an int. -/
def F11 : Fo := .cons 1 0 (none, 0, 0) .nil (.cons 2 0 (none, 0, 0) .nil .nil)
/-- A variable, a bool. -/
def F14 : Fo := .cons 1 0 (none, 0, 0) .nil (.cons 3 0 (none, 0, 0) .nil .nil)
/-- The example's parts. -/
def FEx : Fo := .cons 4 0 (none, 0, 0) F11 (.cons 5 0 (none, 0, 0) F14 .nil)
/-- An arrow of two, told of a world. -/
theorem arrow_two (X : World) (g cp : Nat) (k0 n0 k1 n1 : Int) (u0 u1 : Sl) (f0 f1 : Fo) (hg : g < X.heap.size) (hcp : 2 ≤ cp) (hcm : cp ≤ maxLen) (c0 : X.cell? ⟨g, 0, none⟩ = some (.int .i64 k0)) (c1 : X.cell? ⟨g, 1, none⟩ = some (.int .i64 n0)) (c2 : X.cell? ⟨g, 2, none⟩ = some (slv u0)) (c3 : X.cell? ⟨g, 3, none⟩ = some (.int .i64 k1)) (c4 : X.cell? ⟨g, 4, none⟩ = some (.int .i64 n1)) (c5 : X.cell? ⟨g, 5, none⟩ = some (slv u1)) (h0 : TyV X.heap.size X f0 (slv u0)) (h1 : TyV X.heap.size X f1 (slv u1)) (hs : f0.size + f1.size < 1000) :
    Calls Tryd.prog 31 #[.slice (some ⟨g, 0, none⟩) 2 cp] X fun e w' => ∃ u' : Sl, e = .returned (tyVal 4 0 (slv u')) ∧ Below X.heap.size X w' ∧ FreshT 25 X.heap.size w' idn (.cons k0 n0 u0 f0 (.cons k1 n1 (none, 0, 0) f1 .nil)) u' := by
  have h := arrow_any X _ _ (two_cells g cp k0 n0 k1 n1 u0 u1 f0 f1 hg hcp hcm c0 c1 c2 c3 c4 c5 h0 h1) (by simp only [Fo.size]; omega)
  simpa [Fo.arrF, Fo.len] using h
theorem have_of {p q goal : Prop} (f : p → q) (hp : p) (k : q → goal) : goal := k (f hp)
theorem cellAll {B : Nat} {w w' : World} (h : Below B w w') (a : Nat) (ha : a < B) : ∀ off, w'.cell? ⟨a, off, none⟩ = w.cell? ⟨a, off, none⟩ := fun _ => h.cell (p := ⟨a, _, none⟩) ha
theorem frozenAll {B : Nat} {w w' : World} (h : Below B w w') (a : Nat) (ha : a < B) : ∀ off, w'.frozen? ⟨a, off, none⟩ = w.frozen? ⟨a, off, none⟩ := fun _ => h.frozen (p := ⟨a, _, none⟩) ha
theorem FreshT.img {T : TypeId} {B : Nat} {w : World} {f g : Fo} {u : Sl} (h : FreshT T B w idn g u) (hi : Img idn f g) : FreshT T B w idn f u := fun W hs hk => by
  obtain ⟨g', hg', ht⟩ := h W hs hk
  exact ⟨g', hi.trans hg', ht⟩
/-- The second arrow: of what the first one gave, and a tuple. -/
theorem arrow_snd (Y w3 : World) (B : Nat) (v : Sl) (hf : FreshT 25 B w3 idn F11 v) (g g14 : Nat) (c5 : Y.cell? ⟨g, 5, none⟩ = some (.slice (some ⟨g14, 0, none⟩) 2 2)) (hb : Below w3.heap.size w3 Y) (hg : g < Y.heap.size) (hg14 : g14 < Y.heap.size)
    (c0 : Y.cell? ⟨g, 0, none⟩ = some (.int .i64 4)) (c1 : Y.cell? ⟨g, 1, none⟩ = some (.int .i64 0)) (c2 : Y.cell? ⟨g, 2, none⟩ = some (.slice v.1 v.2.1 v.2.2)) (c3 : Y.cell? ⟨g, 3, none⟩ = some (.int .i64 5)) (c4 : Y.cell? ⟨g, 4, none⟩ = some (.int .i64 0))
    (d0 : Y.cell? ⟨g14, 0, none⟩ = some (.int .i64 1)) (d1 : Y.cell? ⟨g14, 1, none⟩ = some (.int .i64 0)) (d2 : Y.cell? ⟨g14, 2, none⟩ = some (.slice none 0 0)) (d3 : Y.cell? ⟨g14, 3, none⟩ = some (.int .i64 3)) (d4 : Y.cell? ⟨g14, 4, none⟩ = some (.int .i64 0)) (d5 : Y.cell? ⟨g14, 5, none⟩ = some (.slice none 0 0)) :
    Calls Tryd.prog 31 #[.slice (some ⟨g, 0, none⟩) 2 2] Y fun e w' => ∃ u' : Sl, e = .returned (tyVal 4 0 (slv u')) ∧ Below Y.heap.size Y w' ∧ FreshT 25 Y.heap.size w' idn FEx u' := by
  obtain ⟨G, hG, hT⟩ := (hf.below hb).now
  have hGs := hG.size
  have hFs : F11.size = 2 := by decide
  have hFs4 : F14.size = 2 := by decide
  have h14 : TyV Y.heap.size Y F14 (slv (some ⟨g14, 0, none⟩, 2, 2)) := two_cells g14 2 1 0 3 0 (none, 0, 0) (none, 0, 0) .nil .nil hg14 (Nat.le_refl _) (by unfold maxLen; omega) d0 d1 d2 d3 d4 d5 (no_parts _ _) (no_parts _ _)
  refine (arrow_two Y g 2 4 0 5 0 v (some ⟨g14, 0, none⟩, 2, 2) G F14 hg (Nat.le_refl _) (by unfold maxLen; omega) c0 c1 c2 c3 c4 c5 hT h14 (by omega)).mono ?_
  rintro e w' ⟨u', rfl, hb', hf'⟩
  exact ⟨u', rfl, hb', hf'.img ⟨rfl, rfl, hG, rfl, rfl, ⟨rfl, rfl, trivial, rfl, rfl, trivial, trivial⟩, trivial⟩⟩
/-- The first arrow. -/
theorem arrow_fst (X : World) (g : Nat) (hg : g < X.heap.size) (c0 : X.cell? ⟨g, 0, none⟩ = some (.int .i64 1)) (c1 : X.cell? ⟨g, 1, none⟩ = some (.int .i64 0)) (c2 : X.cell? ⟨g, 2, none⟩ = some (.slice none 0 0)) (c3 : X.cell? ⟨g, 3, none⟩ = some (.int .i64 2)) (c4 : X.cell? ⟨g, 4, none⟩ = some (.int .i64 0)) (c5 : X.cell? ⟨g, 5, none⟩ = some (.slice none 0 0)) :
    Calls Tryd.prog 31 #[.slice (some ⟨g, 0, none⟩) 2 2] X fun e w' => ∃ u' : Sl, e = .returned (tyVal 4 0 (slv u')) ∧ Below X.heap.size X w' ∧ FreshT 25 X.heap.size w' idn F11 u' :=
  arrow_two X g 2 1 0 2 0 (none, 0, 0) (none, 0, 0) .nil .nil hg (Nat.le_refl _) (by unfold maxLen; omega) c0 c1 c2 c3 c4 c5 (no_parts _ _) (no_parts _ _) (by simp [Fo.size])
theorem example_txt : oneT 4 0 FEx.txts = [40, 39, 97, 32, 45, 62, 32, 105, 110, 116, 41, 32, 45, 62, 32, 40, 39, 97, 32, 42, 32, 98, 111, 111, 108, 41] := by
  have h0 : nameB 0 = [39, 97] := by decide
  simp [FEx, F11, F14, Fo.txts, oneT, brk, sepT, h0]
theorem example_ok : (alone 4 0 FEx.len && FEx.ok) = true := by decide
theorem example_size : FEx.size = 6 := by decide
theorem FreshT.set {T : TypeId} {B : Nat} {w : World} {f : Fo} {u : Sl} (h : FreshT T B w idn f u) (g j : Nat) (v : Value) (hg : g < B) : FreshT T B (w.setCell ⟨g, j, none⟩ v) idn f u :=
  h.to (by simp) fun b _ hb hl => (Below.heap_setCell _ _ _ _ (by simp only; omega)).trans hl
theorem fin_world {K : Exit → Act → World → Prop} {x : Exit} {t0 t1 t2 t3 : Value} {rest : List Value} {ds : List Deferred} {g : Nat} {W : World} (R : World → Nat → Prop) (h : R W g) (k : ∀ Z g, R Z g → K x ⟨(t0 :: t1 :: t2 :: t3 :: Value.pointer (some ⟨g, 0, none⟩) :: rest).toArray, ds⟩ Z) : K x ⟨(t0 :: t1 :: t2 :: t3 :: Value.pointer (some ⟨g, 0, none⟩) :: rest).toArray, ds⟩ W := k W g h
theorem cells3 (w : World) (g : Nat) (a b c x y z : Value) (h0 : w.cell? ⟨g, 0, none⟩ = some x) (h1 : w.cell? ⟨g, 1, none⟩ = some y) (h2 : w.cell? ⟨g, 2, none⟩ = some z) :
    (((w.setCell ⟨g, 0, none⟩ a).setCell ⟨g, 1, none⟩ b).setCell ⟨g, 2, none⟩ c).cell? ⟨g, 0, none⟩ = some a ∧ (((w.setCell ⟨g, 0, none⟩ a).setCell ⟨g, 1, none⟩ b).setCell ⟨g, 2, none⟩ c).cell? ⟨g, 1, none⟩ = some b ∧ (((w.setCell ⟨g, 0, none⟩ a).setCell ⟨g, 1, none⟩ b).setCell ⟨g, 2, none⟩ c).cell? ⟨g, 2, none⟩ = some c := by
  refine ⟨by go_simp, by go_simp, by go_simp⟩
/-- What the three say of the example. -/
theorem example_said {B : Nat} {w : World} {G : Fo} {v : Sl} (hi : Img idn FEx G) (ht : TyV B w G (slv v)) :
    (if alone 4 0 G.len && G.ok then oneT 4 0 G.txts else []) = [40, 39, 97, 32, 45, 62, 32, 105, 110, 116, 41, 32, 45, 62, 32, 40, 39, 97, 32, 42, 32, 98, 111, 111, 108, 41] ∧ allAlone (Fo.cons 4 0 v G .nil).pre = true ∧ G.size = 6 := by
  have hok : (alone 4 0 G.len && G.ok) = true := by rw [hi.len, hi.ok]; exact example_ok
  refine ⟨?_, ?_, hi.size.trans example_size⟩
  · rw [if_pos hok, hi.txts, example_txt]
  · have h2 := allAlone_ok G ht.list
    have hl : v.2.1 = G.len := by
      obtain ⟨A, c, hs⟩ := ht.slice
      obtain ⟨v1, v2, v3⟩ := v
      simp only [slv, Value.slice.injEq] at hs
      exact hs.2.1
    simp only [Bool.and_eq_true] at hok
    simp only [Fo.pre, List.append_nil]
    show (alone 4 0 v.2.1 && allAlone G.pre) = true
    rw [hl, hok.1, h2.trans hok.2]
    rfl
end Go.Proofs.YtifdbmdfkhnojaaDoor
/- An append as one step of a region that draws, by its run. Nothing here speaks of the program. -/
namespace Go.Proofs.YtifdbmdfkhnojaaDoor
open Go.RowKit
theorem step_app {P : Program} {ops : Array Oper} {o : Oper} {a : Act} {w : World} {K : Act → World → Prop} {Q : Exit → Act → World → Prop} {E : Prop} (hgd : o.guard = none) (s x : Operand) (t : TypeId)
    (ho : o.op = .call { callee := .builtin .append, args := #[s, x], argTypes := #[t, t] }) {vs vx v' : Value} {w' : World} (hrun : (app_ #[t, t] o.type #[vs, vx]).run P w = .ok v' w')
    (hs : a.eval s = vs) (hx : a.eval x = vx) (h : K (a.put o.dst v') w') : if Region.wanted o (yielded ops a.tmps) = true then Oper.wp P o a w K Q else E := by
  have hw : Region.wanted o (yielded ops a.tmps) = true := by simp [Region.wanted, hgd]
  rw [if_pos hw]
  have hrun2 : (Builtin.append_ #[t, t] o.type #[vs, vx]).run P w = .ok v' w' := hrun
  unfold Oper.wp
  simp [execOp, ho, resolve, invoke, builtin, hs, hx, hrun2, Result.andThen]
  exact h
end Go.Proofs.YtifdbmdfkhnojaaDoor
/- Substitutions, plain: types without the places where their parts lie; what becomes of a type; binds that count. Nothing here speaks of the program. -/
namespace Go.Proofs.YtifdbmdfkhnojaaDoor
namespace Fo
/-- Without places. -/
def pure : Fo → Fo
  | nil => nil
  | cons k n _ ps r => cons k n (none, 0, 0) ps.pure r.pure
theorem pure_pure (f : Fo) : f.pure.pure = f.pure := by
  induction f with
  | nil => rfl
  | cons k n v ps r i1 i2 => simp [pure, i1, i2]
theorem pure_size (f : Fo) : f.pure.size = f.size := by
  induction f with
  | nil => rfl
  | cons k n v ps r i1 i2 => simp [pure, size, i1, i2]
theorem pure_len (f : Fo) : f.pure.len = f.len := by
  induction f with
  | nil => rfl
  | cons k n v ps r i1 i2 => simp [pure, len, i2]
theorem pure_depth (f : Fo) : f.pure.depth = f.depth := by
  induction f with
  | nil => rfl
  | cons k n v ps r i1 i2 => simp [pure, depth, i1, i2]
theorem pure_app (f g : Fo) : (f.app g).pure = f.pure.app g.pure := by
  induction f with
  | nil => rfl
  | cons k n v ps r i1 i2 => simp [pure, app, i2]
theorem same_iff (f g : Fo) : f.same g = true ↔ f.pure = g.pure := by
  induction f generalizing g with
  | nil => cases g <;> simp [same, pure]
  | cons k n v ps r i1 i2 => cases g with
    | nil => simp [same, pure]
    | cons k' n' v' ps' r' => simp [same, pure, i1, i2, and_assoc]
end Fo
theorem img_iff (f g : Fo) : Img idn f g ↔ g.pure = f.pure := by
  induction f generalizing g with
  | nil => cases g <;> simp [Img, Fo.pure]
  | cons k n v ps r i1 i2 => cases g with
    | nil => simp [Img, Fo.pure]
    | cons k' n' v' ps' r' => simp [Img, Fo.pure, i1, i2, nm_id]
/-- What variables become. -/
abbrev Sg := Int → Option (Int × Int × Fo)
namespace Fo
/-- What types become. -/
def sub (s : Sg) : Fo → Fo
  | nil => nil
  | cons k n _ ps r => match (if k = 1 then s n else none) with
    | some x => cons x.1 x.2.1 (none, 0, 0) x.2.2.pure (r.sub s)
    | none => cons k n (none, 0, 0) (ps.sub s) (r.sub s)
theorem sub_has {s : Sg} {k n : Int} {u : Sl} {ps r : Fo} {x : Int × Int × Fo} (hk : k = 1) (h : s n = some x) : (cons k n u ps r).sub s = cons x.1 x.2.1 (none, 0, 0) x.2.2.pure (r.sub s) := by simp [sub, hk, h]
theorem sub_not {s : Sg} {k n : Int} {u : Sl} {ps r : Fo} (h : k = 1 → s n = none) : (cons k n u ps r).sub s = cons k n (none, 0, 0) (ps.sub s) (r.sub s) := by
  by_cases hk : k = 1
  · simp [sub, hk, h hk]
  · simp [sub, hk]
theorem cases_sub (s : Sg) (k n : Int) : (k = 1 ∧ ∃ x, s n = some x) ∨ (k = 1 → s n = none) := by
  by_cases hk : k = 1
  · cases h : s n with
    | none => exact .inr fun _ => rfl
    | some x => exact .inl ⟨hk, x, rfl⟩
  · exact .inr fun h => absurd h hk
theorem sub_len (s : Sg) (f : Fo) : (f.sub s).len = f.len := by
  induction f with
  | nil => rfl
  | cons k n v ps r i1 i2 =>
    rcases cases_sub s k n with ⟨hk, x, hx⟩ | h
    · rw [sub_has hk hx]; simp [len, i2]
    · rw [sub_not h]; simp [len, i2]
theorem sub_pure (s : Sg) (f : Fo) : (f.sub s).pure = f.sub s := by
  induction f with
  | nil => rfl
  | cons k n v ps r i1 i2 =>
    rcases cases_sub s k n with ⟨hk, x, hx⟩ | h
    · rw [sub_has hk hx]; simp [pure, i2, pure_pure]
    · rw [sub_not h]; simp [pure, i1, i2]
theorem pure_sub (s : Sg) (f : Fo) : f.pure.sub s = f.sub s := by
  induction f with
  | nil => rfl
  | cons k n v ps r i1 i2 =>
    rcases cases_sub s k n with ⟨hk, x, hx⟩ | h
    · rw [pure, sub_has hk hx, sub_has hk hx, i2]
    · rw [pure, sub_not h, sub_not h, i1, i2]
theorem sub_app (s : Sg) (f g : Fo) : (f.app g).sub s = (f.sub s).app (g.sub s) := by
  induction f with
  | nil => rfl
  | cons k n v ps r i1 i2 =>
    rcases cases_sub s k n with ⟨hk, x, hx⟩ | h
    · rw [app, sub_has hk hx, sub_has hk hx, app, i2]
    · rw [app, sub_not h, sub_not h, app, i2]
theorem sub_ext {s t : Sg} (h : ∀ n, s n = t n) (f : Fo) : f.sub s = f.sub t := by rw [show s = t from funext h]
/-- What one type becomes. -/
def sub1 (s : Sg) (k n : Int) (ps : Fo) : Int × Int × Fo :=
  match (if k = 1 then s n else none) with
  | some x => (x.1, x.2.1, x.2.2.pure)
  | none => (k, n, ps.sub s)
theorem sub_cons (s : Sg) (k n : Int) (u : Sl) (ps r : Fo) : (cons k n u ps r).sub s = cons (sub1 s k n ps).1 (sub1 s k n ps).2.1 (none, 0, 0) (sub1 s k n ps).2.2 (r.sub s) := by
  rcases cases_sub s k n with ⟨hk, x, hx⟩ | h
  · rw [sub_has hk hx]; simp [sub1, hk, hx]
  · rw [sub_not h]
    by_cases hk : k = 1
    · simp [sub1, hk, h hk]
    · simp [sub1, hk]
theorem sub1_has {s : Sg} {k n : Int} {ps : Fo} {x : Int × Int × Fo} (hk : k = 1) (h : s n = some x) : sub1 s k n ps = (x.1, x.2.1, x.2.2.pure) := by simp [sub1, hk, h]
theorem sub1_not {s : Sg} {k n : Int} {ps : Fo} (h : k = 1 → s n = none) : sub1 s k n ps = (k, n, ps.sub s) := by
  by_cases hk : k = 1
  · simp [sub1, hk, h hk]
  · simp [sub1, hk]
theorem sub1_pure (s : Sg) (k n : Int) (ps : Fo) : sub1 s k n ps.pure = sub1 s k n ps := by
  rcases cases_sub s k n with ⟨hk, x, hx⟩ | h
  · rw [sub1_has hk hx, sub1_has hk hx]
  · rw [sub1_not h, sub1_not h, pure_sub]
/-- All that is in the binds is no greater than S: what comes of a type is no greater than that many times it. -/
theorem sub_size (s : Sg) (S : Nat) (hS : 1 ≤ S) (h : ∀ n x, s n = some x → 1 + x.2.2.size ≤ S) (f : Fo) : (f.sub s).size ≤ S * f.size := by
  induction f with
  | nil => simp [sub, size]
  | cons k n v ps r i1 i2 =>
    rcases cases_sub s k n with ⟨hk, x, hx⟩ | h1
    · rw [sub_has hk hx]
      have := h n x hx
      simp only [size, pure_size]
      have e : S * (1 + ps.size + r.size) = S + S * ps.size + S * r.size := by rw [Nat.mul_add, Nat.mul_add, Nat.mul_one]
      rw [e]
      omega
    · rw [sub_not h1]
      simp only [size]
      have e : S * (1 + ps.size + r.size) = S + S * ps.size + S * r.size := by rw [Nat.mul_add, Nat.mul_add, Nat.mul_one]
      rw [e]
      omega
/-- One behind the other. -/
theorem sub_sub (a b t : Sg) (h : ∀ n, t n = match a n with | some x => some (sub1 b x.1 x.2.1 x.2.2) | none => b n) (f : Fo) : f.sub t = (f.sub a).sub b := by
  induction f with
  | nil => rfl
  | cons k n v ps r i1 i2 =>
    rcases cases_sub a k n with ⟨hk, x, hx⟩ | h1
    · have ht : t n = some (sub1 b x.1 x.2.1 x.2.2) := by rw [h, hx]
      rw [sub_has hk ht, sub_has hk hx, sub_cons, i2, sub1_pure]
      have : (sub1 b x.1 x.2.1 x.2.2).2.2.pure = (sub1 b x.1 x.2.1 x.2.2).2.2 := by
        rcases cases_sub b x.1 x.2.1 with ⟨hk2, y, hy⟩ | h2
        · rw [sub1_has hk2 hy]; exact pure_pure _
        · rw [sub1_not h2]; exact sub_pure _ _
      rw [this]
    · rw [sub_not h1]
      rcases cases_sub b k n with ⟨hk, x, hx⟩ | h2
      · have ht : t n = some x := by rw [h, h1 hk]; exact hx
        rw [sub_has hk ht, sub_has hk hx, i2]
      · have ht : k = 1 → t n = none := fun hk => by rw [h, h1 hk]; exact h2 hk
        rw [sub_not ht, sub_not h2, i1, i2]
/-- Does no variable of these stand there? -/
def free (s : Sg) : Fo → Bool
  | nil => true
  | cons k n _ ps r => (decide (k ≠ 1) || (s n).isNone) && ps.free s && r.free s
theorem sub_free (s : Sg) (f : Fo) (h : f.free s = true) : f.sub s = f.pure := by
  induction f with
  | nil => rfl
  | cons k n v ps r i1 i2 =>
    simp only [free, Bool.and_eq_true, Bool.or_eq_true, decide_eq_true_eq, Option.isNone_iff_eq_none] at h
    have h1 : k = 1 → s n = none := fun hk => h.1.1.resolve_left (fun h => h hk)
    rw [sub_not h1, i1 h.1.2, i2 h.2, pure]
end Fo
/-- A bind: its variable, and its type: kind, number, slice, parts. -/
abbrev Bnd := Int × Int × Int × Sl × Fo
/-- The first bind of a variable. -/
def fnd : List Bnd → Int → Option Bnd
  | [], _ => none
  | b :: l, v => if b.1 = v then some b else fnd l v
def sgB (b : Bnd) : Int × Int × Fo := (b.2.1, b.2.2.1, b.2.2.2.2.pure)
def sg (l : List Bnd) : Sg := fun v => (fnd l v).map sgB
/-- Those that count. -/
def cnt : List Bnd → List Bnd
  | [] => []
  | b :: l => b :: (cnt l).filter (fun x => decide (x.1 ≠ b.1))
theorem fnd_var {l : List Bnd} {v : Int} {b : Bnd} (h : fnd l v = some b) : b.1 = v := by
  induction l with
  | nil => cases h
  | cons c l ih =>
    simp only [fnd] at h
    split at h
    · cases h; assumption
    · exact ih h
theorem fnd_mem {l : List Bnd} {v : Int} {b : Bnd} (h : fnd l v = some b) : b ∈ l := by
  induction l with
  | nil => cases h
  | cons c l ih =>
    simp only [fnd] at h
    split at h
    · cases h; simp
    · simp [ih h]
theorem fnd_app (a b : List Bnd) (v : Int) : fnd (a ++ b) v = (fnd a v).or (fnd b v) := by
  induction a with
  | nil => rfl
  | cons c l ih => simp only [List.cons_append, fnd]; split <;> simp [ih]
theorem fnd_none {l : List Bnd} {v : Int} : fnd l v = none ↔ ∀ b ∈ l, b.1 ≠ v := by
  induction l with
  | nil => simp [fnd]
  | cons c l ih => simp only [fnd]; split <;> simp_all
theorem fnd_filter (l : List Bnd) (p : Bnd → Bool) (q : Int → Bool) (hp : ∀ b, p b = q b.1) (v : Int) : fnd (l.filter p) v = if q v then fnd l v else none := by
  induction l with
  | nil => simp [fnd]
  | cons c l ih =>
    by_cases hc : p c = true
    · rw [List.filter_cons_of_pos hc]
      simp only [fnd]
      by_cases e : c.1 = v
      · subst e; simp [hp c ▸ hc]
      · simp [e, ih]
    · rw [List.filter_cons_of_neg hc, ih]
      by_cases e : c.1 = v
      · subst e; rw [hp] at hc; simp [hc]
      · simp [fnd, e]
theorem fnd_cnt (l : List Bnd) (v : Int) : fnd (cnt l) v = fnd l v := by
  induction l with
  | nil => rfl
  | cons c l ih =>
    simp only [cnt, fnd]
    split
    · rfl
    · rename_i h
      rw [fnd_filter (cnt l) _ (fun y => decide (y ≠ c.1)) (fun _ => rfl), ih]
      simp [Ne.symm h]
theorem cnt_snoc (l : List Bnd) (b : Bnd) : cnt (l ++ [b]) = if (fnd l b.1).isSome then cnt l else cnt l ++ [b] := by
  induction l with
  | nil => simp [cnt, fnd]
  | cons c l ih =>
    simp only [List.cons_append, cnt, ih, fnd]
    by_cases e : c.1 = b.1
    · simp only [e, if_true, Option.isSome_some]
      split
      · rfl
      · simp
    · simp only [e, if_false]
      split
      · rfl
      · simp [Ne.symm e]
theorem cnt_sub {l : List Bnd} {b : Bnd} (h : b ∈ cnt l) : b ∈ l := by
  induction l with
  | nil => cases h
  | cons c l ih =>
    simp only [cnt, List.mem_cons, List.mem_filter] at h
    rcases h with rfl | ⟨h, _⟩
    · simp
    · simp [ih h]
theorem cnt_mem {l : List Bnd} {b : Bnd} : b ∈ cnt l ↔ fnd l b.1 = some b := by
  induction l with
  | nil => simp [cnt, fnd]
  | cons c l ih =>
    simp only [cnt, List.mem_cons, List.mem_filter, decide_eq_true_eq, fnd, ih]
    constructor
    · rintro (rfl | ⟨h, hne⟩)
      · simp
      · simp [Ne.symm hne, h]
    · intro h
      split at h
      · injection h with h; exact .inl h.symm
      · rename_i hne; exact .inr ⟨h, Ne.symm hne⟩
theorem cnt_len (l : List Bnd) : (cnt l).length ≤ l.length := by
  induction l with
  | nil => simp [cnt]
  | cons c l ih => simp only [cnt, List.length_cons]; have := List.length_filter_le (fun x : Bnd => decide (x.1 ≠ c.1)) (cnt l); omega
theorem cnt_nd (l : List Bnd) : (cnt l).Pairwise (fun x y => x.1 ≠ y.1) := by
  induction l with
  | nil => exact List.Pairwise.nil
  | cons d l ih =>
    refine List.Pairwise.cons (fun x hx => ?_) (ih.filter _)
    have := (List.mem_filter.1 hx).2
    simp only [decide_eq_true_eq] at this
    exact fun e => this e.symm
theorem strike_len (v : Int) (q : List Bnd) (hq : q.Pairwise (fun x y => x.1 ≠ y.1)) : (q.filter fun x => decide (x.1 ≠ v)).length + (if (fnd q v).isSome then 1 else 0) = q.length := by
  induction hq with
  | nil => simp [fnd]
  | @cons d q hd hq ih =>
    by_cases e : d.1 = v
    · rw [List.filter_cons_of_neg (by simp [e])]
      have : q.filter (fun x => decide (x.1 ≠ v)) = q := List.filter_eq_self.2 fun x hx => by simpa using fun h => hd x hx (e.trans h.symm)
      rw [this]; simp [fnd, e]
    · rw [List.filter_cons_of_pos (by simpa using e)]
      simp only [fnd, e, if_false, List.length_cons]
      omega
/-- So many there are as another one comes ahead. -/
theorem cnt_cons_len (b : Bnd) (l : List Bnd) : (cnt (b :: l)).length = if (fnd l b.1).isSome then (cnt l).length else (cnt l).length + 1 := by
  have := strike_len b.1 _ (cnt_nd l)
  rw [fnd_cnt] at this
  simp only [cnt, List.length_cons]
  split <;> simp_all <;> omega
end Go.Proofs.YtifdbmdfkhnojaaDoor
