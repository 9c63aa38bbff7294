/- Texts of one proof, one behind the other. -/
import Derived.Test.YtojgiienohpaiaaGreatMgCycleFinds23
import Derived.Test.YtojgiienohpaiaaGreatMgCycleFinds6
import Derived.Test.YtojgiienohpaiaaGreatMgCycleFinds16
import Derived.Test.YtojgiienohpaiaaGreatMgCycleFinds13
import Derived.Test.YtojgiienohpaiaaGreatMgCycleFinds5
namespace Go.Proofs.YtojgiienohpaiaaGreat
open Go.RowKit
set_option maxRecDepth 100000
attribute [local go_sem] Oper.semAt_some
attribute [local go_sem ↓] builtin_app
def rt1 (t : Ty1) : Bool := alone t.1 t.2.1 t.2.2.2.len && allAlone t.2.2.2.pre
def rtE (x : Eqn) : Bool := rt1 x.1 && rt1 x.2.1
def rights (l : List Eqn) : List Eqn := l.filter rtE
theorem rights_step (l : List Eqn) (j : Nat) (hj : j < l.length) : rights (l.take (j + 1)) = rights (l.take j) ++ if rtE l[j] = true then [l[j]] else [] := by
  unfold rights
  rw [List.take_add_one, List.getElem?_eq_getElem hj, List.filter_append]
  congr 1
  simp only [Option.toList_some, List.filter_cons, List.filter_nil]
theorem rights_len (l : List Eqn) : (rights l).length ≤ l.length := List.length_filter_le _ _
def eqR (l : List Eqn) : List Value := l.flatMap eqC
theorem eqR_len (l : List Eqn) : (eqR l).length = l.length * 8 := by
  induction l with
  | nil => rfl
  | cons x l ih =>
    unfold eqR at ih ⊢
    rw [List.flatMap_cons, List.length_append, ih, List.length_cons, Nat.succ_mul]
    simp only [eqC, List.length_cons, List.length_nil]
    omega
theorem eqR_app (l m : List Eqn) : eqR (l ++ m) = eqR l ++ eqR m := by simp [eqR]
theorem eqR_get {l : List Eqn} {i : Nat} (hi : i < l.length) (o : Nat) (ho : o < 8) : (eqR l)[i * 8 + o]? = (eqC l[i])[o]? := by
  induction l generalizing i with
  | nil => simp at hi
  | cons x l ih =>
    have e : eqR (x :: l) = eqC x ++ eqR l := by simp [eqR]
    rw [e]
    have hx : (eqC x).length = 8 := rfl
    cases i with
    | zero =>
      rw [List.getElem?_append_left (by omega)]
      simp
    | succ i =>
      rw [List.getElem?_append_right (by omega), hx, show (i + 1) * 8 + o - 8 = i * 8 + o by omega]
      simp only [List.length_cons] at hi
      rw [ih (by omega)]
      simp
theorem eqInfo : (Tryz.prog.info? 51).map (fun i => (i.zero, i.size, i.bytes)) = some (some (.agg #[.int .i64 0, .int .i64 0, .slice none 0 0, .int .i64 0, .int .i64 0, .slice none 0 0, .int .i64 0, .int .i64 0]), 8, 96) := by kernel_rfl
theorem app_eq (W : World) (v : Value) (l : List Eqn) (base : Nat) (hb : base ≤ W.heap.size) (hown : W.ownsRow base 51 8 v l.length (eqR l)) (x : Eqn) (hm : l.length ≤ 100000) :
    ∃ g cp w1, (app_ #[22, 22] 22 #[v, .slice (some ⟨W.heap.size, 0, none⟩) 1 1]).run Tryz.prog (W.alloc (.cells (eqC x).toArray 51)) = .ok (.slice (some ⟨g, 0, none⟩) (l.length + 1) cp) w1 ∧
      w1.ownsRow base 51 8 (.slice (some ⟨g, 0, none⟩) (l.length + 1) cp) (l ++ [x]).length (eqR (l ++ [x])) ∧ (W.alloc (.cells (eqC x).toArray 51)).grownBy w1 v.ownBlock := by
  obtain ⟨i0, hi0, hz0, hz1, hz2⟩ := Un.info_parts eqInfo
  have rd1 : Rd (W.alloc (.cells (eqC x).toArray 51)) 8 (.slice (some ⟨W.heap.size, 0, none⟩) 1 1) 1 (eqC x) := rd_new W (eqC x) 51 8 1 rfl (by unfold maxLen; omega)
  obtain ⟨v', w1, hrun, hown1, hg1, hat⟩ := run_append_rd (P := Tryz.prog) _ base 22 22 51 i0 _ 8 96 Tryz.underlying22 hi0 hz0 hz1 hz2 rfl (by omega) v l.length (eqR l) (hown.alloc _) _ 1 _ rd1 (by intro y hy; simp only [eqC, slv, List.mem_cons, List.not_mem_nil, or_false] at hy; rcases hy with rfl | rfl | rfl | rfl | rfl | rfl | rfl | rfl <;> rfl) (by unfold maxLen; omega) (by omega) (by simp; omega)
  obtain ⟨g, cp, rfl, _, _⟩ := Un.own_shape hown1 (by omega)
  refine ⟨g, cp, w1, hrun, ?_, hg1⟩
  rw [eqR_app, List.length_append]
  exact hown1
theorem EqV.of_own {w : World} {l : List Eqn} {v : Value} {B : Nat} (h : w.ownsRow B 51 8 v l.length (eqR l)) (ht : ∀ x ∈ l, EqT w.heap.size w x) : EqV w.heap.size w l v := by
  by_cases h0 : 0 < l.length
  · obtain ⟨g, c, rfl, hc, hg⟩ := Un.own_shape h h0
    obtain ⟨_, _, e, _, hcm⟩ := Un.own_form h
    cases e
    refine ⟨_, _, rfl, fun _ => ⟨g, 0, rfl, hg, hc, hcm, fun i hi => ?_⟩, ht⟩
    have hl := eqR_len l
    have hc8 : (eqC l[i]).length = 8 := rfl
    have k : ∀ o, (ho : o < 8) → w.cell? ⟨g, 0 + i * 8 + o, none⟩ = (eqC l[i])[o]? := fun o ho => by
      rw [Nat.zero_add, h.cellAt (i * 8 + o) (by omega)]
      exact eqR_get hi o ho
    exact ⟨k 0 (by omega), k 1 (by omega), k 2 (by omega), k 3 (by omega), k 4 (by omega), k 5 (by omega), k 6 (by omega), k 7 (by omega)⟩
  · have : l = [] := List.eq_nil_of_length_eq_zero (by omega)
    subst this
    obtain ⟨A, c, rfl, _, _⟩ := Un.own_form h
    exact ⟨A, c, rfl, fun h => absurd h h0, ht⟩
theorem size_of_esz {l : List Eqn} {x : Eqn} (hx : x ∈ l) : x.1.2.2.2.size ≤ esz l ∧ x.2.1.2.2.2.size ≤ esz l := by
  induction l with
  | nil => cases hx
  | cons y l ih =>
    have e : esz (y :: l) = sz1 y + esz l := by simp [esz]
    rcases List.mem_cons.1 hx with rfl | hx
    · rw [e]; unfold sz1; omega
    · have := ih hx
      rw [e]; omega
set_option maxHeartbeats 4000000 in
theorem rights12_any (w : World) (l : List Eqn) (v : Value) (h : EqV w.heap.size w l v) (hl : l.length ≤ 20) (hs : esz l ≤ 160) :
    Calls Tryz.prog 7 #[v] w fun e w' => ∃ v', e = .returned v' ∧ EqV w'.heap.size w' (rights l) v' ∧ Below w.heap.size w w' := by
  obtain ⟨A, c, rfl⟩ := h.form
  have H := Lib.hid h
  clear h
  go_enter Tryz.func7, Tryz.ntmps7
  go_wp2_with fail
  go_loopw [3, 4] (fun s t wr => ∃ (j : Nat), t = .int .i64 (j : Nat) ∧ j ≤ l.length ∧ wr.ownsRow w.heap.size 51 8 s (rights (l.take j)).length (eqR (rights (l.take j))) ∧ Below w.heap.size w wr) (fun _ t _ => l.length - (intOf t).toNat)
  case atStart => exact ⟨0, rfl, Nat.zero_le _, World.ownsRow_nil _ _ _ _, Below.refl _ _⟩
  case round =>
    obtain ⟨j, rfl, hj, hown, hb⟩ := hrel
    obtain ⟨A', c', rfl, _, _⟩ := Un.own_form hown
    have hrl : (rights (l.take j)).length ≤ 20 := by have := rights_len (l.take j); rw [List.length_take] at this; omega
    obtain ⟨m, hm⟩ : ∃ m, (rights (l.take j)).length = m := ⟨_, rfl⟩
    have HB := Lib.hid (And.intro hb (And.intro hown hm))
    rw [hm] at hrl ⊢
    clear hb hown hm
    by_cases hjl : j < l.length
    · have f1 : decide ((j : Int) < (l.length : Int)) = true := decide_eq_true (by omega)
      obtain ⟨b, off, rfl, hat, hty⟩ := H.out.here HB.out.1 j hjl
      have hsz := size_of_esz (List.getElem_mem hjl)
      obtain ⟨x, hx⟩ : ∃ x, l[j] = x := ⟨_, rfl⟩
      rw [hx] at hat hty hsz
      obtain ⟨⟨k0, n0, ⟨u1, u2, u3⟩, F⟩, ⟨k1, n1, ⟨v1, v2, v3⟩, F'⟩, a0, a1⟩ := x
      obtain ⟨x0, x1, x2, x3, x4, x5, _, _⟩ := hat
      have hR := rright_any (F.size + 1) F k0 n0 (slv (u1, u2, u3)) wr (by omega) (by have h9 : F.size ≤ esz l := hsz.1; omega) hty.1
      obtain ⟨r1, hr1⟩ : ∃ z, (alone k0 n0 F.len && allAlone F.pre) = z := ⟨_, rfl⟩
      rw [hr1] at hR
      have HR := Lib.hid hR
      have HX := Lib.hid (And.intro hx (And.intro hsz hr1))
      dsimp only [slv, tyVal] at x0 x1 x2 x3 x4 x5 HR
      clear hx hsz hr1 hR hty x3 x4 x5
      go_wp2_with fail
      refine HR.out.mono ?_
      rintro e w2 ⟨rfl, hb2⟩
      have hb2' : Below w.heap.size w w2 := HB.out.1.trans (hb2.mono HB.out.1.size)
      have hown2 := own_below HB.out.2.1 hb2
      have HB2 := Lib.hid (And.intro hb2' hown2)
      clear HR x0 x1 x2 hown2
      cases r1 with
      | false =>
        have hrt : rtE l[j] = false := by rw [HX.out.1]; show (rt1 _ && rt1 _) = false; rw [show rt1 (k0, n0, (u1, u2, u3), F) = false from HX.out.2.2]; rfl
        clear hb2 hb2'
        go_wp2_with fail
        have hst := rights_step l j hjl
        rw [hrt, if_neg (by decide), List.append_nil] at hst
        refine ⟨⟨j + 1, congrArg (Value.int .i64) (by omega), by omega, ?_, HB2.out.1⟩, ?_⟩
        · rw [hst, ← HB.out.2.2]
          exact HB2.out.2
        · show l.length - (intOf (.int .i64 ((j : Int) + 1))).toNat < l.length - (intOf (.int .i64 (j : Nat))).toNat
          simp only [intOf]
          omega
      | true =>
        obtain ⟨_, _, e1, hat2, hty2⟩ := H.out.here hb2' j hjl
        cases e1
        rw [HX.out.1] at hat2 hty2
        obtain ⟨y0, y1, y2, y3, y4, y5, y6, y7⟩ := hat2
        have hR := rright_any (F'.size + 1) F' k1 n1 (slv (v1, v2, v3)) w2 (by omega) (by have h9 : F'.size ≤ esz l := HX.out.2.1.2; omega) hty2.2
        obtain ⟨r2, hr2⟩ : ∃ z, (alone k1 n1 F'.len && allAlone F'.pre) = z := ⟨_, rfl⟩
        rw [hr2] at hR
        have HR := Lib.hid hR
        have HX2 := Lib.hid hr2
        dsimp only [slv, tyVal] at y0 y1 y2 y3 y4 y5 y6 y7 HR
        have y4' : w2.cell? ⟨b, off + j * 8 + 3 + 1, none⟩ = some (.int .i64 n1) := y4
        have y5' : w2.cell? ⟨b, off + j * 8 + 3 + 2, none⟩ = some (.slice v1 v2 v3) := y5
        clear hty2 hr2 hR hb2 hb2' y0 y1 y2 y6 y7
        go_wp2_with fail
        refine HR.out.mono ?_
        rintro e w3 ⟨rfl, hb3⟩
        have hb3' : Below w.heap.size w w3 := HB2.out.1.trans (hb3.mono HB2.out.1.size)
        have hown3 := own_below HB2.out.2 hb3
        have HB3 := Lib.hid (And.intro hb3' hown3)
        clear HR y3 y4 y5 y4' y5' hb3
        cases r2 with
        | false =>
          have hrt : rtE l[j] = false := by rw [HX.out.1]; show (rt1 _ && rt1 _) = false; rw [show rt1 (k1, n1, (v1, v2, v3), F') = false from HX2.out]; simp
          clear hb3' hown3
          go_wp2_with fail
          have hst := rights_step l j hjl
          rw [hrt, if_neg (by decide), List.append_nil] at hst
          refine ⟨⟨j + 1, congrArg (Value.int .i64) (by omega), by omega, ?_, HB3.out.1⟩, ?_⟩
          · rw [hst, ← HB.out.2.2]
            exact HB3.out.2
          · show l.length - (intOf (.int .i64 ((j : Int) + 1))).toNat < l.length - (intOf (.int .i64 (j : Nat))).toNat
            simp only [intOf]
            omega
        | true =>
          have hrt : rtE l[j] = true := by rw [HX.out.1]; show (rt1 _ && rt1 _) = true; rw [show rt1 (k0, n0, (u1, u2, u3), F) = true from HX.out.2.2, show rt1 (k1, n1, (v1, v2, v3), F') = true from HX2.out]; rfl
          obtain ⟨_, _, e1, hat3, _⟩ := H.out.here hb3' j hjl
          cases e1
          rw [HX.out.1] at hat3
          obtain ⟨z0, z1, z2, z3, z4, z5, z6, z7⟩ := hat3
          dsimp only [slv] at z0 z1 z2 z3 z4 z5 z6 z7
          rw [HB.out.2.2] at hown3
          obtain ⟨g, cp, w4, hrun, hown4, hgr⟩ := app_eq w3 (.slice A' m c') (rights (l.take j)) w.heap.size hb3'.size (by rw [HB.out.2.2]; exact hown3) ((k0, n0, (u1, u2, u3), F), (k1, n1, (v1, v2, v3), F'), a0, a1) (by rw [HB.out.2.2]; omega)
          rw [HB.out.2.2] at hrun hown4
          have hrun' : (app_ #[22, 22] 22 #[.slice A' m c', .slice (some ⟨w3.heap.size, 0, none⟩) 1 1]).run Tryz.prog (w3.alloc (.cells #[.int .i64 k0, .int .i64 n0, .slice u1 u2 u3, .int .i64 k1, .int .i64 n1, .slice v1 v2 v3, .int .i64 a0, .int .i64 a1] 51)) = .ok (.slice (some ⟨g, 0, none⟩) (m + 1) cp) w4 := hrun
          have hb4 : Below w.heap.size w w4 := by
            have hE := ((Un.Else.alloc (fun i => (Value.slice A' m c').ownBlock = some i) w3 _).trans (Un.Else.grown hgr fun i hi => hi))
            exact hb3'.trans (hE.below (fun i hi => (hown3.lt i hi).1) hb3'.size)
          have HB4 := Lib.hid (And.intro hb4 hown4)
          clear hrun hown4 hgr hb4 hown3 hb3'
          go_wp2_with fail
          have hst := rights_step l j hjl
          rw [hrt, if_pos rfl, HX.out.1] at hst
          refine ⟨⟨j + 1, congrArg (Value.int .i64) (by omega), by omega, ?_, HB4.out.1⟩, ?_⟩
          · rw [hst]
            exact HB4.out.2
          · show l.length - (intOf (.int .i64 ((j : Int) + 1))).toNat < l.length - (intOf (.int .i64 (j : Nat))).toNat
            simp only [intOf]
            omega
    · have f1 : decide ((j : Int) < (l.length : Int)) = false := decide_eq_false (by omega)
      go_wp2_with fail
      have hjj : j = l.length := by omega
      have h3 := HB.out.2.1
      have hm := HB.out.2.2
      rw [hjj, List.take_length] at h3 hm
      rw [hm] at h3
      refine bodyPost_ret (results_tmp rfl _ _ _) rfl ⟨_, rfl, EqV.of_own (by rw [hm]; exact h3) fun x hx => ?_, HB.out.1⟩
      have hxl : x ∈ l := (List.mem_filter.1 hx).1
      obtain ⟨i, hi, rfl⟩ := List.mem_iff_getElem.1 hxl
      exact (H.out.later HB.out.1).ty i hi
end Go.Proofs.YtojgiienohpaiaaGreat
