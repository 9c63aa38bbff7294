/- Texts of one proof, one behind the other. -/
import Derived.Test.YtojgiienohpaiaaMgCycleGreat25
import Derived.Test.YtojgiienohpaiaaMgCycleGreat7
import Derived.Test.YtojgiienohpaiaaMgCycleGreat18
import Derived.Test.YtojgiienohpaiaaMgCycleGreat14
import Derived.Test.YtojgiienohpaiaaMgCycleGreat6
import Derived.Test.YtojgiienohpaiaaMgCycleGreat22
import Derived.Test.YtojgiienohpaiaaMgCycleGreat2
import Derived.Test.YtojgiienohpaiaaMgCycleGreat12
import Derived.Test.YtojgiienohpaiaaMgCycleGreat4
import Derived.Test.YtojgiienohpaiaaMgCycleGreat5
/- unify's laws: the right equations. -/
namespace Go.Proofs.Ytojgiienohpaiaa
open Go.RowKit
set_option maxRecDepth 100000
attribute [local go_sem] Oper.semAt_some
attribute [local go_sem ↓] builtin_app
/-- Whether both sides are right. -/
def rt1 (t : Ty1) : Bool := alone t.1 t.2.1 t.2.2.2.len && allAlone t.2.2.2.pre
def rtE (x : Eqn) : Bool := rt1 x.1 && rt1 x.2.1
def rights (l : List Eqn) : List Eqn := l.filter rtE
theorem rights_step (l : List Eqn) (j : Nat) (hj : j < l.length) : rights (l.take (j + 1)) = rights (l.take j) ++ if rtE l[j] = true then [l[j]] else [] := by
  unfold rights
  rw [List.take_add_one, List.getElem?_eq_getElem hj, List.filter_append]
  congr 1
  simp only [Option.toList_some, List.filter_cons, List.filter_nil]
theorem rights_len (l : List Eqn) : (rights l).length ≤ l.length := List.length_filter_le _ _
def eqR (l : List Eqn) : List Value := l.flatMap eqC
theorem eqR_len (l : List Eqn) : (eqR l).length = l.length * 8 := by
  induction l with
  | nil => rfl
  | cons x l ih =>
    unfold eqR at ih ⊢
    rw [List.flatMap_cons, List.length_append, ih, List.length_cons, Nat.succ_mul]
    simp only [eqC, List.length_cons, List.length_nil]
    omega
theorem eqR_app (l m : List Eqn) : eqR (l ++ m) = eqR l ++ eqR m := by simp [eqR]
theorem eqR_get {l : List Eqn} {i : Nat} (hi : i < l.length) (o : Nat) (ho : o < 8) : (eqR l)[i * 8 + o]? = (eqC l[i])[o]? := by
  induction l generalizing i with
  | nil => simp at hi
  | cons x l ih =>
    have e : eqR (x :: l) = eqC x ++ eqR l := by simp [eqR]
    rw [e]
    have hx : (eqC x).length = 8 := rfl
    cases i with
    | zero =>
      rw [List.getElem?_append_left (by omega)]
      simp
    | succ i =>
      rw [List.getElem?_append_right (by omega), hx, show (i + 1) * 8 + o - 8 = i * 8 + o by omega]
      simp only [List.length_cons] at hi
      rw [ih (by omega)]
      simp
theorem eqInfo : (Try.prog.info? 72).map (fun i => (i.zero, i.size, i.bytes)) = some (some (.agg #[.int .i64 0, .int .i64 0, .slice none 0 0, .int .i64 0, .int .i64 0, .slice none 0 0, .int .i64 0, .int .i64 0]), 8, 96) := by kernel_rfl
theorem app_eq (W : World) (v : Value) (l : List Eqn) (base : Nat) (hb : base ≤ W.heap.size) (hown : W.ownsRow base 72 8 v l.length (eqR l)) (x : Eqn) (hm : l.length ≤ 100000) :
    ∃ g cp w1, (app_ #[36, 36] 36 #[v, .slice (some ⟨W.heap.size, 0, none⟩) 1 1]).run Try.prog (W.alloc (.cells (eqC x).toArray 72)) = .ok (.slice (some ⟨g, 0, none⟩) (l.length + 1) cp) w1 ∧
      w1.ownsRow base 72 8 (.slice (some ⟨g, 0, none⟩) (l.length + 1) cp) (l ++ [x]).length (eqR (l ++ [x])) ∧ (W.alloc (.cells (eqC x).toArray 72)).grownBy w1 v.ownBlock := by
  obtain ⟨i0, hi0, hz0, hz1, hz2⟩ := Un.info_parts eqInfo
  have rd1 : Rd (W.alloc (.cells (eqC x).toArray 72)) 8 (.slice (some ⟨W.heap.size, 0, none⟩) 1 1) 1 (eqC x) := rd_new W (eqC x) 72 8 1 rfl (by unfold maxLen; omega)
  obtain ⟨v', w1, hrun, hown1, hg1, hat⟩ := run_append_rd (P := Try.prog) _ base 36 36 72 i0 _ 8 96 Try.underlying36 hi0 hz0 hz1 hz2 rfl (by omega) v l.length (eqR l) (hown.alloc _) _ 1 _ rd1 (by intro y hy; simp only [eqC, slv, List.mem_cons, List.not_mem_nil, or_false] at hy; rcases hy with rfl | rfl | rfl | rfl | rfl | rfl | rfl | rfl <;> rfl) (by unfold maxLen; omega) (by omega) (by simp; omega)
  obtain ⟨g, cp, rfl, _, _⟩ := Un.own_shape hown1 (by omega)
  refine ⟨g, cp, w1, hrun, ?_, hg1⟩
  rw [eqR_app, List.length_append]
  exact hown1
/-- What comes of Rights, as it lies. -/
theorem EqV.of_own {w : World} {l : List Eqn} {v : Value} {B : Nat} (h : w.ownsRow B 72 8 v l.length (eqR l)) (ht : ∀ x ∈ l, EqT w.heap.size w x) : EqV w.heap.size w l v := by
  by_cases h0 : 0 < l.length
  · obtain ⟨g, c, rfl, hc, hg⟩ := Un.own_shape h h0
    obtain ⟨_, _, e, _, hcm⟩ := Un.own_form h
    cases e
    refine ⟨_, _, rfl, fun _ => ⟨g, 0, rfl, hg, hc, hcm, fun i hi => ?_⟩, ht⟩
    have hl := eqR_len l
    have hc8 : (eqC l[i]).length = 8 := rfl
    have k : ∀ o, (ho : o < 8) → w.cell? ⟨g, 0 + i * 8 + o, none⟩ = (eqC l[i])[o]? := fun o ho => by
      rw [Nat.zero_add, h.cellAt (i * 8 + o) (by omega)]
      exact eqR_get hi o ho
    exact ⟨k 0 (by omega), k 1 (by omega), k 2 (by omega), k 3 (by omega), k 4 (by omega), k 5 (by omega), k 6 (by omega), k 7 (by omega)⟩
  · have : l = [] := List.eq_nil_of_length_eq_zero (by omega)
    subst this
    obtain ⟨A, c, rfl, _, _⟩ := Un.own_form h
    exact ⟨A, c, rfl, fun h => absurd h h0, ht⟩
theorem size_of_esz {l : List Eqn} {x : Eqn} (hx : x ∈ l) : x.1.2.2.2.size ≤ esz l ∧ x.2.1.2.2.2.size ≤ esz l := by
  induction l with
  | nil => cases hx
  | cons y l ih =>
    have e : esz (y :: l) = sz1 y + esz l := by simp [esz]
    rcases List.mem_cons.1 hx with rfl | hx
    · rw [e]; unfold sz1; omega
    · have := ih hx
      rw [e]; omega
set_option maxHeartbeats 4000000 in
theorem rights12_any (w : World) (l : List Eqn) (v : Value) (h : EqV w.heap.size w l v) (hl : l.length ≤ 20) (hs : esz l ≤ 160) :
    Calls Try.prog 15 #[v] w fun e w' => ∃ v', e = .returned v' ∧ EqV w'.heap.size w' (rights l) v' ∧ Below w.heap.size w w' := by
  obtain ⟨A, c, rfl⟩ := h.form
  have H := Lib.hid h
  clear h
  go_enter Try.func15, Try.ntmps15
  go_wp2_with fail
  go_loopw [3, 4] (fun s t wr => ∃ (j : Nat), t = .int .i64 (j : Nat) ∧ j ≤ l.length ∧ wr.ownsRow w.heap.size 72 8 s (rights (l.take j)).length (eqR (rights (l.take j))) ∧ Below w.heap.size w wr) (fun _ t _ => l.length - (intOf t).toNat)
  case atStart => exact ⟨0, rfl, Nat.zero_le _, World.ownsRow_nil _ _ _ _, Below.refl _ _⟩
  case round =>
    obtain ⟨j, rfl, hj, hown, hb⟩ := hrel
    obtain ⟨A', c', rfl, _, _⟩ := Un.own_form hown
    have hrl : (rights (l.take j)).length ≤ 20 := by have := rights_len (l.take j); rw [List.length_take] at this; omega
    obtain ⟨m, hm⟩ : ∃ m, (rights (l.take j)).length = m := ⟨_, rfl⟩
    have HB := Lib.hid (And.intro hb (And.intro hown hm))
    rw [hm] at hrl ⊢
    clear hb hown hm
    by_cases hjl : j < l.length
    · have f1 : decide ((j : Int) < (l.length : Int)) = true := decide_eq_true (by omega)
      obtain ⟨b, off, rfl, hat, hty⟩ := H.out.here HB.out.1 j hjl
      have hsz := size_of_esz (List.getElem_mem hjl)
      obtain ⟨x, hx⟩ : ∃ x, l[j] = x := ⟨_, rfl⟩
      rw [hx] at hat hty hsz
      obtain ⟨⟨k0, n0, ⟨u1, u2, u3⟩, F⟩, ⟨k1, n1, ⟨v1, v2, v3⟩, F'⟩, a0, a1⟩ := x
      obtain ⟨x0, x1, x2, x3, x4, x5, _, _⟩ := hat
      have hR := rright_any (F.size + 1) F k0 n0 (slv (u1, u2, u3)) wr (by omega) (by have h9 : F.size ≤ esz l := hsz.1; omega) hty.1
      obtain ⟨r1, hr1⟩ : ∃ z, (alone k0 n0 F.len && allAlone F.pre) = z := ⟨_, rfl⟩
      rw [hr1] at hR
      have HR := Lib.hid hR
      have HX := Lib.hid (And.intro hx (And.intro hsz hr1))
      dsimp only [slv, tyVal] at x0 x1 x2 x3 x4 x5 HR
      clear hx hsz hr1 hR hty x3 x4 x5
      go_wp2_with fail
      refine HR.out.mono ?_
      rintro e w2 ⟨rfl, hb2⟩
      have hb2' : Below w.heap.size w w2 := HB.out.1.trans (hb2.mono HB.out.1.size)
      have hown2 := own_below HB.out.2.1 hb2
      have HB2 := Lib.hid (And.intro hb2' hown2)
      clear HR x0 x1 x2 hown2
      cases r1 with
      | false =>
        have hrt : rtE l[j] = false := by rw [HX.out.1]; show (rt1 _ && rt1 _) = false; rw [show rt1 (k0, n0, (u1, u2, u3), F) = false from HX.out.2.2]; rfl
        clear hb2 hb2'
        go_wp2_with fail
        have hst := rights_step l j hjl
        rw [hrt, if_neg (by decide), List.append_nil] at hst
        refine ⟨⟨j + 1, congrArg (Value.int .i64) (by omega), by omega, ?_, HB2.out.1⟩, ?_⟩
        · rw [hst, ← HB.out.2.2]
          exact HB2.out.2
        · show l.length - (intOf (.int .i64 ((j : Int) + 1))).toNat < l.length - (intOf (.int .i64 (j : Nat))).toNat
          simp only [intOf]
          omega
      | true =>
        obtain ⟨_, _, e1, hat2, hty2⟩ := H.out.here hb2' j hjl
        cases e1
        rw [HX.out.1] at hat2 hty2
        obtain ⟨y0, y1, y2, y3, y4, y5, y6, y7⟩ := hat2
        have hR := rright_any (F'.size + 1) F' k1 n1 (slv (v1, v2, v3)) w2 (by omega) (by have h9 : F'.size ≤ esz l := HX.out.2.1.2; omega) hty2.2
        obtain ⟨r2, hr2⟩ : ∃ z, (alone k1 n1 F'.len && allAlone F'.pre) = z := ⟨_, rfl⟩
        rw [hr2] at hR
        have HR := Lib.hid hR
        have HX2 := Lib.hid hr2
        dsimp only [slv, tyVal] at y0 y1 y2 y3 y4 y5 y6 y7 HR
        have y4' : w2.cell? ⟨b, off + j * 8 + 3 + 1, none⟩ = some (.int .i64 n1) := y4
        have y5' : w2.cell? ⟨b, off + j * 8 + 3 + 2, none⟩ = some (.slice v1 v2 v3) := y5
        clear hty2 hr2 hR hb2 hb2' y0 y1 y2 y6 y7
        go_wp2_with fail
        refine HR.out.mono ?_
        rintro e w3 ⟨rfl, hb3⟩
        have hb3' : Below w.heap.size w w3 := HB2.out.1.trans (hb3.mono HB2.out.1.size)
        have hown3 := own_below HB2.out.2 hb3
        have HB3 := Lib.hid (And.intro hb3' hown3)
        clear HR y3 y4 y5 y4' y5' hb3
        cases r2 with
        | false =>
          have hrt : rtE l[j] = false := by rw [HX.out.1]; show (rt1 _ && rt1 _) = false; rw [show rt1 (k1, n1, (v1, v2, v3), F') = false from HX2.out]; simp
          clear hb3' hown3
          go_wp2_with fail
          have hst := rights_step l j hjl
          rw [hrt, if_neg (by decide), List.append_nil] at hst
          refine ⟨⟨j + 1, congrArg (Value.int .i64) (by omega), by omega, ?_, HB3.out.1⟩, ?_⟩
          · rw [hst, ← HB.out.2.2]
            exact HB3.out.2
          · show l.length - (intOf (.int .i64 ((j : Int) + 1))).toNat < l.length - (intOf (.int .i64 (j : Nat))).toNat
            simp only [intOf]
            omega
        | true =>
          have hrt : rtE l[j] = true := by rw [HX.out.1]; show (rt1 _ && rt1 _) = true; rw [show rt1 (k0, n0, (u1, u2, u3), F) = true from HX.out.2.2, show rt1 (k1, n1, (v1, v2, v3), F') = true from HX2.out]; rfl
          obtain ⟨_, _, e1, hat3, _⟩ := H.out.here hb3' j hjl
          cases e1
          rw [HX.out.1] at hat3
          obtain ⟨z0, z1, z2, z3, z4, z5, z6, z7⟩ := hat3
          dsimp only [slv] at z0 z1 z2 z3 z4 z5 z6 z7
          rw [HB.out.2.2] at hown3
          obtain ⟨g, cp, w4, hrun, hown4, hgr⟩ := app_eq w3 (.slice A' m c') (rights (l.take j)) w.heap.size hb3'.size (by rw [HB.out.2.2]; exact hown3) ((k0, n0, (u1, u2, u3), F), (k1, n1, (v1, v2, v3), F'), a0, a1) (by rw [HB.out.2.2]; omega)
          rw [HB.out.2.2] at hrun hown4
          have hrun' : (app_ #[36, 36] 36 #[.slice A' m c', .slice (some ⟨w3.heap.size, 0, none⟩) 1 1]).run Try.prog (w3.alloc (.cells #[.int .i64 k0, .int .i64 n0, .slice u1 u2 u3, .int .i64 k1, .int .i64 n1, .slice v1 v2 v3, .int .i64 a0, .int .i64 a1] 72)) = .ok (.slice (some ⟨g, 0, none⟩) (m + 1) cp) w4 := hrun
          have hb4 : Below w.heap.size w w4 := by
            have hE := ((Un.Else.alloc (fun i => (Value.slice A' m c').ownBlock = some i) w3 _).trans (Un.Else.grown hgr fun i hi => hi))
            exact hb3'.trans (hE.below (fun i hi => (hown3.lt i hi).1) hb3'.size)
          have HB4 := Lib.hid (And.intro hb4 hown4)
          clear hrun hown4 hgr hb4 hown3 hb3'
          go_wp2_with fail
          have hst := rights_step l j hjl
          rw [hrt, if_pos rfl, HX.out.1] at hst
          refine ⟨⟨j + 1, congrArg (Value.int .i64) (by omega), by omega, ?_, HB4.out.1⟩, ?_⟩
          · rw [hst]
            exact HB4.out.2
          · show l.length - (intOf (.int .i64 ((j : Int) + 1))).toNat < l.length - (intOf (.int .i64 (j : Nat))).toNat
            simp only [intOf]
            omega
    · have f1 : decide ((j : Int) < (l.length : Int)) = false := decide_eq_false (by omega)
      go_wp2_with fail
      have hjj : j = l.length := by omega
      have h3 := HB.out.2.1
      have hm := HB.out.2.2
      rw [hjj, List.take_length] at h3 hm
      rw [hm] at h3
      refine bodyPost_ret (results_tmp rfl _ _ _) rfl ⟨_, rfl, EqV.of_own (by rw [hm]; exact h3) fun x hx => ?_, HB.out.1⟩
      have hxl : x ∈ l := (List.mem_filter.1 hx).1
      obtain ⟨i, hi, rfl⟩ := List.mem_iff_getElem.1 hxl
      exact (H.out.later HB.out.1).ty i hi
end Go.Proofs.Ytojgiienohpaiaa
/- The answer's graph: Add, walked. -/
namespace Go.Proofs.Ytojgiienohpaiaa
open Go.RowKit Go.Shelf
attribute [local go_sem ↓] builtin_app
set_option maxRecDepth 100000
theorem Vok.at {F : Fo} (h : Vok F) (j : Nat) (hj : j < F.len) : ((F.at_ j).1 = 1 → (F.at_ j).2.2.2 = .nil) ∧ Vok (F.at_ j).2.2.2 := by
  induction F generalizing j with
  | nil => simp [Fo.len] at hj
  | cons k n u ps r _ ih =>
    cases j with
    | zero => exact ⟨h.1, h.2.1⟩
    | succ j => exact ih h.2.2 j (by simp only [Fo.len] at hj; omega)
end Go.Proofs.Ytojgiienohpaiaa
/- graph's laws: is there more than is asked of? -/
namespace Go.Proofs.Ytojgiienohpaiaa
open Go.RowKit Go.Shelf
set_option maxRecDepth 100000
end Go.Proofs.Ytojgiienohpaiaa
/- graph's laws: a graph, and the document's, of the same types: what stands. -/
namespace Go.Proofs.Ytojgiienohpaiaa
open Go.RowKit Go.Shelf
set_option maxRecDepth 100000
/-- One type more: the nodes, and those that were asked for. -/
def bOne (s : List Rn × List Nat) (k n : Int) (u : Sl) (ps : Fo) : List Rn × List Nat :=
  if allAlone (Fo.cons k n u ps .nil).pre then ((radd1 s.1 k n u ps).1, s.2 ++ [(radd1 s.1 k n u ps).2]) else s
def bAll (s : List Rn × List Nat) : Fo → List Rn × List Nat
  | .nil => s
  | .cons k n u ps r => bAll (bOne s k n u ps) r
theorem bAll_app (f g : Fo) : ∀ s, bAll s (f.app g) = bAll (bAll s f) g := by
  induction f with
  | nil => intro s; rfl
  | cons k n u ps r _ ih => intro s; simp only [Fo.app, bAll, ih]
theorem bAll_step (F : Fo) (j : Nat) (hj : j < F.len) (s : List Rn × List Nat) : bAll s (F.take (j + 1)) = bOne (bAll s (F.take j)) (F.at_ j).1 (F.at_ j).2.1 (F.at_ j).2.2.1 (F.at_ j).2.2.2 := by
  rw [F.take_step j hj, bAll_app]
  rfl
theorem radd1_len (R : List Rn) (k n : Int) (u : Sl) (ps : Fo) : (radd1 R k n u ps).1.length ≤ R.length + (1 + ps.size) := by
  have h := (radd_len (.cons k n u ps .nil) R).1
  rw [radd_cons, radd_nil] at h
  simpa [Fo.size] using h
theorem bOne_len (s : List Rn × List Nat) (k n : Int) (u : Sl) (ps : Fo) : (bOne s k n u ps).1.length ≤ s.1.length + (1 + ps.size) ∧ (bOne s k n u ps).2.length ≤ s.2.length + 1 := by
  unfold bOne
  split
  · exact ⟨radd1_len _ _ _ _ _, by simp⟩
  · omega
theorem bAll_len (F : Fo) : ∀ s, (bAll s F).1.length ≤ s.1.length + F.size ∧ (bAll s F).2.length ≤ s.2.length + F.len := by
  induction F with
  | nil => intro s; simp [bAll, Fo.size, Fo.len]
  | cons k n u ps r _ ih =>
    intro s
    have h1 := bOne_len s k n u ps
    have h2 := ih (bOne s k n u ps)
    simp only [bAll, Fo.size, Fo.len]
    omega
theorem radd1_G (R : List Rn) (k n : Int) (u : Sl) (ps : Fo) (hG : GI (R.map rG)) (hv : Vok (Fo.cons k n u ps .nil)) : (radd1 R k n u ps).1.map rG = (gadd1 (R.map rG) k n ps).1 ∧ (radd1 R k n u ps).2 = (gadd1 (R.map rG) k n ps).2 ∧ GI ((radd1 R k n u ps).1.map rG) := by
  have h := radd_G (Fo.cons k n u ps .nil) R hG hv
  have hok := gadd_ok (Fo.cons k n u ps .nil) (R.map rG) hG hv
  rw [radd_cons, radd_nil, gadd_cons, gadd_nil] at h
  obtain ⟨h1, h2⟩ := h
  dsimp only at h1 h2
  injection h2 with h2 _
  refine ⟨h1, h2, ?_⟩
  rw [h1]
  have h3 := hok.ok
  rw [gadd_cons, gadd_nil] at h3
  exact h3
theorem bOne_GI (s : List Rn × List Nat) (k n : Int) (u : Sl) (ps : Fo) (hG : GI (s.1.map rG)) (hl : LenOk (Fo.cons k n u ps .nil)) : GI ((bOne s k n u ps).1.map rG) := by
  unfold bOne
  split
  · rename_i h
    exact (radd1_G s.1 k n u ps hG (vok_of h hl)).2.2
  · exact hG
structure BoI (w : World) (BT : Nat) (W : World) (g mb : Nat) (vg vm va : Value) (L : List Nd) (M : List Rm) (R : List Rn) (A : List Nat) : Prop where
  graph : GrM w.heap.size W g vg mb L (R.map rG)
  model : RgM (fun b => b ≠ g ∧ b ≠ mb ∧ vg.ownBlock ≠ some b ∧ va.ownBlock ≠ some b) BT W vm M
  eqR : M1 M = R
  row : W.ownsRow w.heap.size 3 1 va A.length (nums A)
  apart : NoP va.ownBlock L
  below : Below w.heap.size w W
theorem BoI.keep {w : World} {BT : Nat} {W W' : World} {g mb : Nat} {vg vm va : Value} {L : List Nd} {M : List Rm} {R : List Rn} {A : List Nat} (h : BoI w BT W g mb vg vm va L M R A) (hT : BT ≤ w.heap.size) (hb : Below W.heap.size W W') : BoI w BT W' g mb vg vm va L M R A :=
  ⟨h.graph.below hb, h.model.below (Nat.le_trans hT h.below.size) hb, h.eqR, own_below h.row hb, h.apart, h.below.trans (hb.mono h.below.size)⟩
theorem BoI.start {w W : World} {BT : Nat} {g mb : Nat} (hG : GrM w.heap.size W g (.slice none 0 0) mb [] []) (hb : Below w.heap.size w W) : BoI w BT W g mb (.slice none 0 0) (.slice none 0 0) (.slice none 0 0) [] [] [] [] :=
  ⟨hG, ⟨⟨⟨rfl, .inl ⟨rfl, _, _, rfl⟩⟩, fun h => absurd h (Nat.lt_irrefl 0)⟩, (fun x hx => by cases hx)⟩, rfl, World.ownsRow_nil _ _ _ _, (fun x hx => by cases hx), hb⟩
/-- The graph has a type more. -/
theorem BoI.added {w : World} {BT : Nat} {W W2 W3 : World} {g mb : Nat} {vg vg' vm va : Value} {L : List Nd} {M : List Rm} {R : List Rn} {A : List Nat} (h : BoI w BT W g mb vg vm va L M R A) (hT : BT ≤ w.heap.size)
    (hc : Chg W W2 g mb vg vg') (hge : w.heap.size ≤ g ∧ w.heap.size ≤ mb) (hb3 : Below W2.heap.size W2 W3) :
    RgM (fun b => b ≠ g ∧ b ≠ mb ∧ vg'.ownBlock ≠ some b ∧ va.ownBlock ≠ some b) BT W3 vm M ∧ W3.ownsRow w.heap.size 3 1 va A.length (nums A) ∧ Below w.heap.size w W3 := by
  have hvg : ∀ b, vg.ownBlock = some b → w.heap.size ≤ b := fun b hb => (h.graph.row.lt b hb).1
  have hbl : Below w.heap.size w W2 := ⟨hc.os.trans h.below.os, hc.tape.trans h.below.tape, hc.output.trans h.below.output, Nat.le_trans h.below.size hc.size, fun b hb => (hc.block b (Nat.lt_of_lt_of_le hb h.below.size) (by omega) (by omega) (fun e => by have := hvg b e; omega)).trans (h.below.block b hb)⟩
  have h2 : RgM (fun b => b ≠ g ∧ b ≠ mb ∧ vg'.ownBlock ≠ some b ∧ va.ownBlock ≠ some b) BT W2 vm M := by
    refine ((h.model.imp fun b hlt hD => (⟨hD, hlt⟩ : (b ≠ g ∧ b ≠ mb ∧ vg.ownBlock ≠ some b ∧ va.ownBlock ≠ some b) ∧ b < W.heap.size)).to ⟨hc.os, hc.tape, hc.output, hc.size, fun b hb => hc.block b (by have := h.below.size; omega) (by omega) (by omega) (fun e => by have := hvg b e; omega)⟩ hc.size fun b hD hlt => hc.block b hlt hD.1.1 hD.1.2.1 hD.1.2.2.1).imp fun b _ hD => ⟨hD.1.1, hD.1.2.1, ?_, hD.1.2.2.2⟩
    rcases hc.at_ with e | ⟨b', e, hb'⟩
    · rw [e]; exact hD.1.2.2.1
    · rw [e]; intro e2; injection e2 with e2; have := hD.2; omega
  have h3 : W2.ownsRow w.heap.size 3 1 va A.length (nums A) := by
    refine ⟨h.row.1, ?_⟩
    rcases h.row.2 with h' | ⟨b, cap, cur, hv, hb, hh, hr⟩
    · exact .inl h'
    · have hmo : ∃ es ck, W.heap[mb]? = some (Obj.map es ck) := by obtain ⟨_, _, _, ⟨es, ck, h, _⟩, _⟩ := h.graph.vars; exact ⟨es, ck, h⟩
      refine .inr ⟨b, cap, cur, hv, hb, (hc.block b (Array.getElem?_eq_some_iff.1 hh).1 (fun e => ?_) (fun e => ?_) (own_ne h.graph.row hh fun cs e => by injection e with _ e; revert e; decide)).trans hh, hr⟩
      · subst e; rw [h.graph.cell] at hh; injection hh with hh; injection hh with _ hh; revert hh; decide
      · subst e; obtain ⟨_, _, h'⟩ := hmo; rw [h'] at hh; cases hh
  exact ⟨h2.below (Nat.le_trans hT hbl.size) hb3, own_below h3 hb3, hbl.trans (hb3.mono hbl.size)⟩
/-- The document's graph, too; the node is put behind the others. -/
theorem BoI.fin {w : World} {BT : Nat} {W W2 W4 : World} {g mb : Nat} {vg vg' vm vm4 va : Value} {L E : List Nd} {M M4 : List Rm} {R R4 : List Rn} {A : List Nat} (h : BoI w BT W g mb vg vm va L M R A) (hT : BT ≤ w.heap.size) (hA : A.length ≤ 1000000)
    (hG2 : GrM w.heap.size W2 g vg' mb (L ++ E) (R4.map rG)) (hE : ∀ x ∈ E, ∀ b, (slv x.2.2.2).ownBlock = some b → W.heap.size ≤ b) (hb4 : Below W2.heap.size W2 W4) (hM4 : RgM (fun b => b ≠ g ∧ b ≠ mb ∧ vg'.ownBlock ≠ some b ∧ va.ownBlock ≠ some b) BT W4 vm4 M4)
    (hR4 : M1 M4 = R4) (hrow : W4.ownsRow w.heap.size 3 1 va A.length (nums A)) (hbl : Below w.heap.size w W4) (i : Nat) :
    ∃ (A6 : Option Addr) (n6 c6 : Nat) (W6 : World), (app_ #[43, 43] 43 #[va, .slice (some ⟨W4.heap.size, 0, none⟩) 1 1]).run Try.prog (W4.alloc (.cells #[.int .i64 (i : Nat)] 3)) = .ok (.slice A6 n6 c6) W6 ∧
      BoI w BT W6 g mb vg' vm4 (.slice A6 n6 c6) (L ++ E) M4 R4 (A ++ [i]) := by
  obtain ⟨v6, W6, hr, ho, hg, hat⟩ := app_part W4 w.heap.size va A hrow (by omega) hbl.size i
  obtain ⟨A6, c6, rfl, -, -⟩ := own_form ho
  refine ⟨A6, _, c6, W6, hr, ?_⟩
  obtain ⟨v6, hv6⟩ : ∃ v6, Value.slice A6 (A ++ [i]).length c6 = v6 := ⟨_, rfl⟩
  rw [hv6] at ho hat ⊢
  have hs6 := hg.size
  simp only [World.size_alloc] at hs6
  have hG4 := hG2.below hb4
  have hk : ∀ b, b < W4.heap.size → va.ownBlock ≠ some b → W6.heap[b]? = W4.heap[b]? := fun b hb h => (hg.block b (by simp; omega) (fun e => h e.symm)).trans (Below.heap_alloc _ _ _ hb)
  have hva : ∀ b, va.ownBlock = some b → w.heap.size ≤ b ∧ b < W.heap.size := fun b e => h.row.lt b e
  have hvc : ∀ {b : Nat} {o : Obj}, W4.heap[b]? = some o → (∀ cs, o ≠ .cells cs 3) → va.ownBlock ≠ some b := fun ho hn => own_ne hrow ho hn
  have hnop : NoP va.ownBlock (L ++ E) := fun x hx b hb e => by
    rcases List.mem_append.1 hx with hx | hx
    · exact h.apart x hx b hb e
    · have := hE x hx b hb
      have := (hva b e).2
      omega
  have hmo : ∃ es ck, W4.heap[mb]? = some (Obj.map es ck) := by obtain ⟨_, _, _, ⟨es, ck, h, _⟩, _⟩ := hG4.vars; exact ⟨es, ck, h⟩
  refine ⟨?_, ?_, hR4, ho, ?_, ?_⟩
  · refine hG4.to2 va.ownBlock hnop (hk g hG4.lt.1 (hvc hG4.cell fun cs e => by injection e with _ e; revert e; decide)) (hk mb hG4.lt.2 (by obtain ⟨es, ck, h'⟩ := hmo; exact hvc h' fun cs e => by cases e)) (fun b hb => hk b (hG4.row.lt b hb).2 ?_) (fun b cs _ hne hb => (hk b (Array.getElem?_eq_some_iff.1 hb).1 hne).trans hb)
    rcases hG4.row.2 with ⟨h', _⟩ | ⟨b', cap, cur, hv, _, hh, _⟩
    · rw [h'] at hb; cases hb
    · rw [hv] at hb
      have : b' = b := by simpa [Value.ownBlock] using hb
      subst this
      exact hvc hh fun cs e => by injection e with _ e; revert e; decide
  · refine ((hM4.imp fun b hlt hD => (⟨hD, hlt⟩ : (b ≠ g ∧ b ≠ mb ∧ vg'.ownBlock ≠ some b ∧ va.ownBlock ≠ some b) ∧ b < W4.heap.size)).to ⟨hg.os, hg.tape, hg.output, by omega, fun b hb => hk b (by have := hbl.size; omega) (fun e => by have := (hva b e).1; omega)⟩ (by omega) fun b hD hlt => hk b hlt hD.1.2.2.2).imp fun b _ hD => ⟨hD.1.1, hD.1.2.1, hD.1.2.2.1, ?_⟩
    rcases hat with e | e
    · rw [e]; exact hD.1.2.2.2
    · rw [e]; intro e2; injection e2 with e2; have := hD.2; omega
  · intro x hx b hb e
    rcases hat with e' | e'
    · exact hnop x hx b hb (by rw [← e']; exact e)
    · rw [e'] at e; injection e with e
      have := (hG4.nodes.lt_own x hx b hb).1
      omega
  · exact ⟨hg.os.trans hbl.os, hg.tape.trans hbl.tape, hg.output.trans hbl.output, by have := hbl.size; omega, fun b hb => (hk b (by have := hbl.size; omega) fun e => by have := (hva b e).1; omega).trans (hbl.block b hb)⟩
end Go.Proofs.Ytojgiienohpaiaa
/- Types without the places where their parts lie. Nothing here speaks of the program. -/
namespace Go.Proofs.Ytojgiienohpaiaa
namespace Fo
/-- Without places. -/
def pure : Fo → Fo
  | nil => nil
  | cons k n _ ps r => cons k n (none, 0, 0) ps.pure r.pure
theorem pure_pure (f : Fo) : f.pure.pure = f.pure := by
  induction f with
  | nil => rfl
  | cons k n v ps r i1 i2 => simp [pure, i1, i2]
theorem pure_size (f : Fo) : f.pure.size = f.size := by
  induction f with
  | nil => rfl
  | cons k n v ps r i1 i2 => simp [pure, size, i1, i2]
theorem pure_len (f : Fo) : f.pure.len = f.len := by
  induction f with
  | nil => rfl
  | cons k n v ps r i1 i2 => simp [pure, len, i2]
theorem pure_depth (f : Fo) : f.pure.depth = f.depth := by
  induction f with
  | nil => rfl
  | cons k n v ps r i1 i2 => simp [pure, depth, i1, i2]
theorem pure_app (f g : Fo) : (f.app g).pure = f.pure.app g.pure := by
  induction f with
  | nil => rfl
  | cons k n v ps r i1 i2 => simp [pure, app, i2]
theorem same_iff (f g : Fo) : f.same g = true ↔ f.pure = g.pure := by
  induction f generalizing g with
  | nil => cases g <;> simp [same, pure]
  | cons k n v ps r i1 i2 => cases g with
    | nil => simp [same, pure]
    | cons k' n' v' ps' r' => simp [same, pure, i1, i2, and_assoc]
end Fo
theorem img_iff (f g : Fo) : Img idn f g ↔ g.pure = f.pure := by
  induction f generalizing g with
  | nil => cases g <;> simp [Img, Fo.pure]
  | cons k n v ps r i1 i2 => cases g with
    | nil => simp [Img, Fo.pure]
    | cons k' n' v' ps' r' => simp [Img, Fo.pure, i1, i2, nm_id]
end Go.Proofs.Ytojgiienohpaiaa
/- Nodes and the types that they stand for. -/
namespace Go.Proofs.Ytojgiienohpaiaa
/-- A node stands for that type. -/
def NEq (y : Rn) (q : Int × Int × Sl × Fo) : Prop := y.1 = q.1 ∧ y.2.1 = q.2.1 ∧ y.2.2.2.1.pure = q.2.2.2.pure
/-- Each node's parts stand for its type's parts, and come ahead. -/
def RI (R : List Rn) : Prop := ∀ (i : Nat) (x : Rn), R[i]? = some x → x.2.2.2.2.length = x.2.2.2.1.len ∧ ∀ j, j < x.2.2.2.1.len → ∃ (p : Nat) (y : Rn), x.2.2.2.2[j]? = some p ∧ p < i ∧ R[p]? = some y ∧ NEq y (x.2.2.2.1.at_ j)
/-- Variables have no parts. -/
def NV (R : List Rn) : Prop := ∀ x ∈ R, x.1 = 1 → x.2.2.2.1 = .nil
theorem get_app {α : Type} {l : List α} {i : Nat} {x : α} (h : l[i]? = some x) (e : List α) : (l ++ e)[i]? = some x := by
  rw [List.getElem?_append_left (List.getElem?_eq_some_iff.1 h).1]; exact h
theorem RI.snoc {R : List Rn} (h : RI R) (k n : Int) (u : Sl) (ps : Fo) (P : List Nat) (hl : P.length = ps.len) (hP : ∀ j, j < ps.len → ∃ p y, P[j]? = some p ∧ R[p]? = some y ∧ NEq y (ps.at_ j)) : RI (R ++ [(k, n, u, ps, P)]) := by
  intro i x hx
  rcases Nat.lt_or_ge i R.length with hi | hi
  · rw [List.getElem?_append_left hi] at hx
    obtain ⟨h1, h2⟩ := h i x hx
    refine ⟨h1, fun j hj => ?_⟩
    obtain ⟨p, y, a1, a2, a3, a4⟩ := h2 j hj
    exact ⟨p, y, a1, a2, get_app a3 _, a4⟩
  · have hi2 : i = R.length := by
      have := (List.getElem?_eq_some_iff.1 hx).1
      rw [List.length_append, List.length_singleton] at this
      omega
    subst hi2
    rw [List.getElem?_append_right (Nat.le_refl _), Nat.sub_self] at hx
    obtain rfl : (k, n, u, ps, P) = x := by simpa using hx
    refine ⟨hl, fun j hj => ?_⟩
    obtain ⟨p, y, a1, a2, a3⟩ := hP j hj
    exact ⟨p, y, a1, (List.getElem?_eq_some_iff.1 a2).1, get_app a2 _, a3⟩
structure RadOk (R : List Rn) (F : Fo) : Prop where
  ri : RI (radd R F).1
  nv : NV (radd R F).1
  ext : ∃ E, (radd R F).1 = R ++ E
  parts : ∀ j, j < F.len → ∃ p y, (radd R F).2[j]? = some p ∧ (radd R F).1[p]? = some y ∧ NEq y (F.at_ j)
theorem rnode_ok (R : List Rn) (k n : Int) (u : Sl) (ps : Fo) (P : List Nat) (h : RI R) (hv : NV R) (hk : k = 1 → ps = .nil) (hl : P.length = ps.len) (hP : ∀ j, j < ps.len → ∃ p y, P[j]? = some p ∧ R[p]? = some y ∧ NEq y (ps.at_ j)) :
    RI (rnode R k n u ps P).1 ∧ NV (rnode R k n u ps P).1 ∧ (∃ E, (rnode R k n u ps P).1 = R ++ E) ∧ ∃ y, (rnode R k n u ps P).1[(rnode R k n u ps P).2]? = some y ∧ NEq y (k, n, u, ps) := by
  unfold rnode
  split
  · rename_i i hi
    split at hi
    · rename_i h1
      obtain ⟨x, hx, hx1, hx2⟩ := gvar_at hi
      rw [List.getElem?_map] at hx
      obtain ⟨y, hy, rfl⟩ := Option.map_eq_some_iff.1 hx
      have hn := hv y (List.mem_of_getElem? hy) hx1
      exact ⟨h, hv, ⟨[], by simp⟩, y, hy, by rw [h1]; exact hx1, hx2, by rw [hn, hk h1]⟩
    · cases hi
  · refine ⟨h.snoc k n u ps P hl hP, fun x hx h1 => ?_, ⟨_, rfl⟩, (k, n, u, ps, P), by simp, rfl, rfl, rfl⟩
    rcases List.mem_append.1 hx with hx | hx
    · exact hv x hx h1
    · obtain rfl : x = (k, n, u, ps, P) := by simpa using hx
      exact hk h1
theorem radd_ok (F : Fo) : ∀ R, RI R → NV R → Vok F → RadOk R F := by
  induction F with
  | nil => intro R h hv _; exact ⟨by rw [radd_nil]; exact h, by rw [radd_nil]; exact hv, ⟨[], by simp [radd_nil]⟩, fun j hj => by simp [Fo.len] at hj⟩
  | cons k n u ps r i1 i2 =>
    intro R h hv hk
    obtain ⟨k1, k2, k3⟩ := hk
    have a := i1 R h hv k2
    obtain ⟨b1, b2, ⟨E2, b3⟩, y, b4, b5⟩ := rnode_ok (radd R ps).1 k n u ps (radd R ps).2 a.ri a.nv k1 (radd_len ps R).2 a.parts
    rw [← radd1_eq] at b1 b2 b3 b4
    have c := i2 _ b1 b2 k3
    obtain ⟨E1, e1⟩ := a.ext
    obtain ⟨E3, e3⟩ := c.ext
    refine ⟨by rw [radd_cons]; exact c.ri, by rw [radd_cons]; exact c.nv, ⟨E1 ++ (E2 ++ E3), ?_⟩, fun j hj => ?_⟩
    · rw [radd_cons]
      show (radd (radd1 R k n u ps).1 r).1 = _
      rw [e3, b3, e1]
      simp only [List.append_assoc]
    · rw [radd_cons]
      cases j with
      | zero => exact ⟨_, y, rfl, by rw [e3]; exact get_app b4 _, b5⟩
      | succ j =>
        obtain ⟨p, z, c1, c2, c3⟩ := c.parts j (by simp only [Fo.len] at hj; omega)
        exact ⟨p, z, by simpa using c1, c2, c3⟩
theorem radd1_ok (R : List Rn) (k n : Int) (u : Sl) (ps : Fo) (h : RI R) (hv : NV R) (hk : Vok (Fo.cons k n u ps .nil)) : RI (radd1 R k n u ps).1 ∧ NV (radd1 R k n u ps).1 ∧ (∃ E, (radd1 R k n u ps).1 = R ++ E) ∧ ∃ y, (radd1 R k n u ps).1[(radd1 R k n u ps).2]? = some y ∧ NEq y (k, n, u, ps) := by
  have a := radd_ok ps R h hv hk.2.1
  obtain ⟨b1, b2, ⟨E2, b3⟩, b4⟩ := rnode_ok (radd R ps).1 k n u ps (radd R ps).2 a.ri a.nv hk.1 (radd_len ps R).2 a.parts
  rw [← radd1_eq] at b1 b2 b3 b4
  obtain ⟨E1, e1⟩ := a.ext
  exact ⟨b1, b2, ⟨E1 ++ E2, by rw [b3, e1, List.append_assoc]⟩, b4⟩
/-- What all that were added leave. -/
structure BOk (s : List Rn × List Nat) : Prop where
  ri : RI s.1
  nv : NV s.1
  gi : GI (s.1.map rG)
theorem BOk.nil (A : List Nat) : BOk ([], A) := ⟨fun i x h => by simp at h, fun x h => by simp at h, fun x h => by simp at h⟩
theorem BOk.one {s : List Rn × List Nat} (h : BOk s) {k n : Int} {u : Sl} {ps : Fo} (hl : LenOk (Fo.cons k n u ps .nil)) : BOk (bOne s k n u ps) := by
  have hg := bOne_GI s k n u ps h.gi hl
  unfold bOne at hg ⊢
  split
  · rename_i ha
    rw [if_pos ha] at hg
    obtain ⟨a, b, _⟩ := radd1_ok s.1 k n u ps h.ri h.nv (vok_of ha hl)
    exact ⟨a, b, hg⟩
  · exact h
theorem bAll_ok (F : Fo) : ∀ s, BOk s → LenOk F → BOk (bAll s F) := by
  induction F with
  | nil => intro s h _; exact h
  | cons k n u ps r _ ih => intro s h hl; exact ih _ (h.one ⟨hl.1, hl.2.1, trivial⟩) hl.2.2
theorem bOne_ext {s : List Rn × List Nat} (h : BOk s) {k n : Int} {u : Sl} {ps : Fo} (hl : LenOk (Fo.cons k n u ps .nil)) : (∃ E, (bOne s k n u ps).1 = s.1 ++ E) ∧ ∃ E, (bOne s k n u ps).2 = s.2 ++ E := by
  unfold bOne
  split
  · rename_i ha
    obtain ⟨_, _, c, _⟩ := radd1_ok s.1 k n u ps h.ri h.nv (vok_of ha hl)
    exact ⟨c, ⟨_, rfl⟩⟩
  · exact ⟨⟨[], by simp⟩, ⟨[], by simp⟩⟩
theorem bAll_ext (F : Fo) : ∀ s, BOk s → LenOk F → (∃ E, (bAll s F).1 = s.1 ++ E) ∧ ∃ E, (bAll s F).2 = s.2 ++ E := by
  induction F with
  | nil => intro s _ _; exact ⟨⟨[], by simp [bAll]⟩, ⟨[], by simp [bAll]⟩⟩
  | cons k n u ps r _ ih =>
    intro s h hl
    have hc : LenOk (Fo.cons k n u ps .nil) := ⟨hl.1, hl.2.1, trivial⟩
    obtain ⟨⟨E1, e1⟩, ⟨E2, e2⟩⟩ := bOne_ext h hc
    obtain ⟨⟨E3, e3⟩, ⟨E4, e4⟩⟩ := ih _ (h.one hc) hl.2.2
    exact ⟨⟨E1 ++ E3, by simp only [bAll]; rw [e3, e1, List.append_assoc]⟩, ⟨E2 ++ E4, by simp only [bAll]; rw [e4, e2, List.append_assoc]⟩⟩
theorem bAll_take (F : Fo) (j : Nat) (hj : j ≤ F.len) (s : List Rn × List Nat) : bAll s F = bAll (bAll s (F.take j)) (F.drop j) := by
  induction F generalizing j s with
  | nil => cases j <;> rfl
  | cons k n u ps r _ ih =>
    cases j with
    | zero => rw [Fo.take_zero, Fo.drop_zero]; rfl
    | succ j => exact ih j (by simp only [Fo.len] at hj; omega) _
theorem LenOk.drop {F : Fo} (h : LenOk F) (j : Nat) : LenOk (F.drop j) := by
  induction F generalizing j with
  | nil => cases j <;> trivial
  | cons k n u ps r _ ih =>
    cases j with
    | zero => rw [Fo.drop_zero]; exact h
    | succ j => exact ih h.2.2 j
theorem LenOk.take {F : Fo} (h : LenOk F) (j : Nat) : LenOk (F.take j) := by
  induction F generalizing j with
  | nil => cases j <;> trivial
  | cons k n u ps r _ ih =>
    cases j with
    | zero => rw [Fo.take_zero]; trivial
    | succ j => exact ⟨h.1, h.2.1, ih h.2.2 j⟩
/-- A right type's node, whatever comes behind. -/
theorem bAll_at (F : Fo) (hl : LenOk F) (s : List Rn × List Nat) (hs : BOk s) (j : Nat) (hj : j < F.len) (hlc : LenOk (Fo.cons (F.at_ j).1 (F.at_ j).2.1 (F.at_ j).2.2.1 (F.at_ j).2.2.2 .nil)) (ha : allAlone (Fo.cons (F.at_ j).1 (F.at_ j).2.1 (F.at_ j).2.2.1 (F.at_ j).2.2.2 .nil).pre = true) :
    ∃ p y, (bAll s F).2[(bAll s (F.take j)).2.length]? = some p ∧ (bAll s F).1[p]? = some y ∧ NEq y (F.at_ j) ∧ (bAll s (F.take (j + 1))).2.length = (bAll s (F.take j)).2.length + 1 := by
  have h0 := bAll_ok (F.take j) s hs (hl.take j)
  have h1 := bAll_ok (F.take (j + 1)) s hs (hl.take (j + 1))
  obtain ⟨⟨E1, e1⟩, ⟨E2, e2⟩⟩ := bAll_ext (F.drop (j + 1)) _ h1 (hl.drop (j + 1))
  rw [← bAll_take F (j + 1) hj s] at e1 e2
  have hst := bAll_step F j hj s
  rw [bOne, if_pos ha] at hst
  obtain ⟨_, _, _, y, hy, hn⟩ := radd1_ok (bAll s (F.take j)).1 _ _ _ _ h0.ri h0.nv (vok_of ha hlc)
  refine ⟨(radd1 (bAll s (F.take j)).1 (F.at_ j).1 (F.at_ j).2.1 (F.at_ j).2.2.1 (F.at_ j).2.2.2).2, y, ?_, ?_, hn, by rw [hst]; simp⟩
  · rw [e2, hst]
    exact get_app (by simp) _
  · rw [e1, hst]
    exact get_app hy _
theorem bAll_not (F : Fo) (s : List Rn × List Nat) (j : Nat) (hj : j < F.len) (ha : allAlone (Fo.cons (F.at_ j).1 (F.at_ j).2.1 (F.at_ j).2.2.1 (F.at_ j).2.2.2 .nil).pre = false) : (bAll s (F.take (j + 1))).2.length = (bAll s (F.take j)).2.length := by
  rw [bAll_step F j hj, bOne, if_neg (by rw [ha]; simp)]
end Go.Proofs.Ytojgiienohpaiaa
