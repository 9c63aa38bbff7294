/- Texts of one proof, one behind the other. -/
import Derived.Test.YtifdbmdfkhnojaaDoorMgSubstApplies30
import Derived.Test.YtifdbmdfkhnojaaDoorMgSubstApplies32
import Derived.Test.YtifdbmdfkhnojaaDoorMgSubstApplies8
import Derived.Test.YtifdbmdfkhnojaaDoorMgSubstApplies12
import Derived.Test.YtifdbmdfkhnojaaDoorRows
import Derived.Test.YtifdbmdfkhnojaaDoorTie
import Derived.Test.YtifdbmdfkhnojaaDoorCards
import Derived.ProofKit
import Derived.LaidMore
import Derived.OpenShut
import Derived.Stop.Joined
import Derived.Lib.LaidTab
import Derived.SevenTiedAt
/- SubstApplies, walked. -/
namespace Go.Proofs.YtifdbmdfkhnojaaDoor
open Go.RowKit Go.Shelf
set_option maxHeartbeats 4000000 in
set_option maxRecDepth 100000 in
theorem applies_law (w : World) (ht : Tab w) (a : List Bnd) (va : Value) (h0 : BdV w.heap.size w a va) (w0 : BdW a) (k n : Int) (u : Sl) (ps : Fo) (hp : TyV w.heap.size w ps (slv u)) (hn : (Lit.int .i64 n).wf = true) (hpw : ps.wf) :
    Calls Tryd.prog 3 #[va, tyVal k n (slv u)] w fun e w' => e = .returned (.bool true) ∧ Below w.heap.size w w' := by
  obtain ⟨A0, c0, rfl⟩ := h0.form
  obtain ⟨u1, u2, u3⟩ := u
  dsimp only [tyVal, slv] at hp ⊢
  obtain ⟨W1, hW1⟩ : ∃ W1, w.alloc (.cells #[.int .i64 k, .int .i64 n, .slice u1 u2 u3] 25) = W1 := ⟨_, rfl⟩
  have hb1 : Below w.heap.size w W1 := by rw [← hW1]; exact (Below.refl _ _).alloc (Nat.le_refl _) _
  have hB1 : W1.heap[w.heap.size]? = some (.cells #[.int .i64 k, .int .i64 n, .slice u1 u2 u3] 25) := by rw [← hW1]; exact heap_alloc_new _ _
  have hlt : w.heap.size < W1.heap.size := by rw [← hW1]; simp
  have kc : ∀ W, Below W1.heap.size W1 W → W.cell? ⟨w.heap.size, 0, none⟩ = some (.int .i64 k) ∧ W.cell? ⟨w.heap.size, 1, none⟩ = some (.int .i64 n) ∧ W.cell? ⟨w.heap.size, 2, none⟩ = some (.slice u1 u2 u3) := fun W hb =>
    ⟨(hb.cell (p := ⟨w.heap.size, 0, none⟩) hlt).trans (cell_of_row W1 _ 0 _ _ (0, 0) hB1), (hb.cell (p := ⟨w.heap.size, 1, none⟩) hlt).trans (cell_of_row W1 _ 1 _ _ (0, 0) hB1), (hb.cell (p := ⟨w.heap.size, 2, none⟩) hlt).trans (cell_of_row W1 _ 2 _ _ (0, 0) hB1)⟩
  have fin : ∀ w', Below W1.heap.size W1 w' → Below w.heap.size w w' := fun w' h => hb1.trans (h.mono hb1.size)
  have aw : ∀ W, Below W1.heap.size W1 W → Calls Tryd.prog 10 #[] W fun e w' => e = .returned (.bool true) ∧ Below W1.heap.size W1 w' := fun W hb => (awake10 W (ht.below (fin W hb))).mono fun e w' ⟨q1, q2⟩ => ⟨q1, hb.trans (q2.mono hb.size)⟩
  have g0 : ∀ W, Below W1.heap.size W1 W → Calls Tryd.prog 8 #[.slice A0 a.length c0] W fun e w' => e = .returned (.bool (greatV a)) ∧ Below W1.heap.size W1 w' := fun W hb => (great_bind W a _ (h0.later (fin W hb))).mono fun e w' ⟨q1, q2⟩ => ⟨q1, hb.trans (q2.mono hb.size)⟩
  have g2 : ∀ W, Below W1.heap.size W1 W → Calls Tryd.prog 9 #[.agg #[.int .i64 k, .int .i64 n, .slice u1 u2 u3]] W fun e w' => e = .returned (.bool (!(decide (1 + ps.size ≤ 300) && decide (1 + ps.depth ≤ 40)))) ∧ Below W1.heap.size W1 w' := fun W hb => (great_any ps k n (.slice u1 u2 u3) W (hp.later (fin W hb))).mono fun e w' ⟨q1, q2⟩ => ⟨q1, hb.trans (q2.mono hb.size)⟩
  have AW := Lib.hid aw
  have G0 := Lib.hid g0
  have G2 := Lib.hid g2
  have H0 := Lib.hid h0
  have HP := Lib.hid hp
  have HB1 := Lib.hid hb1
  have FIN := Lib.hid fin
  have KC := Lib.hid kc
  obtain ⟨e0, e1, e2⟩ := kc W1 (Below.refl _ _)
  clear aw g0 g2 h0 hp hb1 hB1 fin kc
  go_enter Tryd.func3, Tryd.ntmps3
  go_wp2_with fail
  refine (G0.out _ (Below.refl _ _)).mono ?_
  rintro e wa ⟨rfl, hba⟩
  cases hg0 : greatV a
  rotate_left
  · go_wp2_with fail
    refine (AW.out _ hba).mono ?_
    rintro e wz ⟨rfl, hbz⟩
    go_wp2_with fail
    go_ret
    exact ⟨rfl, FIN.out _ hbz⟩
  have g0 := Lib.hid (greatV_false hg0)
  obtain ⟨d0, d1, d2⟩ := KC.out _ hba
  clear hg0
  go_wp2_with fail
  refine (G2.out _ hba).mono ?_
  rintro e wc ⟨rfl, hbc⟩
  obtain ⟨m0, m1, m2⟩ := KC.out _ hbc
  clear d0 d1 d2
  by_cases hg : 1 + ps.size ≤ 300 ∧ 1 + ps.depth ≤ 40
  rotate_left
  · have f2 : (!(decide (1 + ps.size ≤ 300) && decide (1 + ps.depth ≤ 40))) = true := by
      simp only [Bool.not_eq_true', Bool.and_eq_false_iff, decide_eq_false_iff_not]
      omega
    rw [f2]
    go_wp2_with fail
    refine (AW.out _ hbc).mono ?_
    rintro e wz ⟨rfl, hbz⟩
    go_wp2_with fail
    go_ret
    exact ⟨rfl, FIN.out _ hbz⟩
  have f2 : (!(decide (1 + ps.size ≤ 300) && decide (1 + ps.depth ≤ 40))) = false := by simp [hg.1, hg.2]
  rw [f2]
  have hl0 := g0.out.1
  have hG : ∀ W, Below W1.heap.size W1 W → BdG W a (.slice A0 a.length c0) 300 ∧ TyG W k n (u1, u2, u3) ps := fun W hb =>
    ⟨⟨H0.out.later (FIN.out W hb), w0, by omega, fun x hx => (g0.out.2.1 x hx).1⟩, ⟨HP.out.later (FIN.out W hb), by omega, hn, hpw⟩⟩
  obtain ⟨X, hX⟩ : ∃ X, Fo.sub1 (sg a) k n ps = X := ⟨_, rfl⟩
  have hXs : 1 + X.2.2.size ≤ 90000 := by
    rw [← hX]
    exact Nat.le_trans (sub1_le (sg a) 300 (by omega) (sg_size fun x hx => (g0.out.2.1 x hx).1) k n ps) (by omega)
  have t0 := rapply_any wc.heap.size a (.slice A0 a.length c0) (by omega) (ps.size + 1) ps k n (u1, u2, u3) wc (by omega) (by omega) (Nat.le_refl _) (hG _ hbc).1.at_ (hG _ hbc).2.at_
  rw [hX] at t0
  have T0 := Lib.hid t0
  have HG := Lib.hid hG
  have HX := Lib.hid hX
  have HBC := Lib.hid hbc
  clear t0 hG hX hbc hba hg G0 G2 H0 HP e0 e1 e2
  dsimp only [tyVal, slv] at T0
  go_wp2_with fail
  refine T0.out.mono ?_
  clear T0
  rintro e wf ⟨⟨x1, x2, x3⟩, rfl, hbf, hF⟩
  obtain ⟨G, hGp, hGt⟩ := hF.now
  have hbwf := HBC.out.trans (hbf.mono HBC.out.size)
  obtain ⟨W2, hW2⟩ : ∃ W2, wf.alloc (.cells #[.int .i64 X.1, .int .i64 X.2.1, .slice x1 x2 x3] 25) = W2 := ⟨_, rfl⟩
  have hb2 : Below W1.heap.size W1 W2 := by rw [← hW2]; exact hbwf.alloc hbwf.size _
  have hB2 : W2.heap[wf.heap.size]? = some (.cells #[.int .i64 X.1, .int .i64 X.2.1, .slice x1 x2 x3] 25) := by rw [← hW2]; exact heap_alloc_new _ _
  have hlt2 : wf.heap.size < W2.heap.size := by rw [← hW2]; simp
  have hbw2 : Below wf.heap.size wf W2 := by rw [← hW2]; exact (Below.refl _ _).alloc (Nat.le_refl _) _
  have hGt2 := hGt.later hbw2
  have kc2 : ∀ W, Below W2.heap.size W2 W → W.cell? ⟨wf.heap.size, 0, none⟩ = some (.int .i64 X.1) ∧ W.cell? ⟨wf.heap.size, 1, none⟩ = some (.int .i64 X.2.1) ∧ W.cell? ⟨wf.heap.size, 2, none⟩ = some (.slice x1 x2 x3) ∧ W.cell? ⟨w.heap.size, 0, none⟩ = some (.int .i64 k) ∧ W.cell? ⟨w.heap.size, 1, none⟩ = some (.int .i64 n) ∧ W.cell? ⟨w.heap.size, 2, none⟩ = some (.slice u1 u2 u3) := fun W hb =>
    ⟨(hb.cell (p := ⟨wf.heap.size, 0, none⟩) hlt2).trans (cell_of_row W2 _ 0 _ _ (0, 0) hB2), (hb.cell (p := ⟨wf.heap.size, 1, none⟩) hlt2).trans (cell_of_row W2 _ 1 _ _ (0, 0) hB2), (hb.cell (p := ⟨wf.heap.size, 2, none⟩) hlt2).trans (cell_of_row W2 _ 2 _ _ (0, 0) hB2), KC.out W (hb2.trans (hb.mono hb2.size))⟩
  have fin2 : ∀ w', Below W2.heap.size W2 w' → Below W1.heap.size W1 w' := fun w' h => hb2.trans (h.mono hb2.size)
  have hGs : G.size = X.2.2.size := by rw [← Fo.pure_size, hGp]
  obtain ⟨Z, hZ⟩ : ∃ Z : Int, (1 : Int) + (X.2.2.size : Int) = Z := ⟨_, rfl⟩
  have t1 : ∀ W, Below W2.heap.size W2 W → Calls Tryd.prog 13 #[.slice A0 a.length c0, .agg #[.int .i64 k, .int .i64 n, .slice u1 u2 u3]] W fun e w' => ∃ (r1 : Option Addr) (r2 r3 : Nat) (R : Fo), e = .returned (.agg #[.int .i64 X.1, .int .i64 X.2.1, .slice r1 r2 r3]) ∧ TyV w'.heap.size w' R (.slice r1 r2 r3) ∧ R.pure = X.2.2 ∧ Below W2.heap.size W2 w' := by
    intro W hb
    have hq := (HG.out _ (fin2 _ hb)).1
    refine (sapply_any W a _ ⟨hq.at_, hq.wf, hq.len, fun x hx => by have := hq.size x hx; omega⟩ k n (u1, u2, u3) ps (HG.out _ (fin2 _ hb)).2).mono ?_
    rintro e w' ⟨⟨r1, r2, r3⟩, q1, q2, q3⟩
    rw [HX.out] at q1 q3
    obtain ⟨R, q4, q5⟩ := q3.now
    exact ⟨r1, r2, r3, R, q1, q5, q4, hb.trans (q2.mono hb.size)⟩
  have t2 : ∀ (W : World) (r1 : Option Addr) (r2 r3 : Nat) (R : Fo), Below W2.heap.size W2 W → TyV W.heap.size W R (.slice r1 r2 r3) → R.pure = X.2.2 → Calls Tryd.prog 12 #[.agg #[.int .i64 X.1, .int .i64 X.2.1, .slice r1 r2 r3], .agg #[.int .i64 X.1, .int .i64 X.2.1, .slice x1 x2 x3]] W fun e w' => e = .returned (.bool true) ∧ Below W2.heap.size W2 w' := by
    intro W r1 r2 r3 R hb hR hRp
    refine (rsame_any (R.size + 1) R G X.1 X.2.1 X.1 X.2.1 (.slice r1 r2 r3) (.slice x1 x2 x3) W (by omega) (by rw [← Fo.pure_size, hRp]; omega) (by omega) hR (hGt2.later hb)).mono ?_
    rintro e w' ⟨q1, q2⟩
    rw [eq3_of (x := X) (y := X) hRp hGp, eq3_refl] at q1
    exact ⟨q1, hb.trans (q2.mono hb.size)⟩
  have hq6 : ∀ W, Below W2.heap.size W2 W → BdG W a (.slice A0 a.length c0) 1000000 ∧ BdG W a (.slice A0 a.length c0) 90000 := fun W hb => by
    have hq := (HG.out _ (fin2 _ hb)).1
    exact ⟨⟨hq.at_, hq.wf, hq.len, fun x hx => by have := hq.size x hx; omega⟩, ⟨hq.at_, hq.wf, hq.len, fun x hx => by have := hq.size x hx; omega⟩⟩
  have t3 : ∀ W, Below W2.heap.size W2 W → Calls Tryd.prog 14 #[.slice A0 a.length c0] W fun e w' => e = .returned (.bool (rgt a)) ∧ Below W2.heap.size W2 w' := fun W hb => (right_bind W a _ (hq6 W hb).1).mono fun e w' ⟨q1, q2⟩ => ⟨q1, hb.trans (q2.mono hb.size)⟩
  have t4 : ∀ W, Below W2.heap.size W2 W → Calls Tryd.prog 15 #[.slice A0 a.length c0] W fun e w' => e = .returned (.bool (rgt a)) ∧ Below W2.heap.size W2 w' := fun W hb => (rright_bind W a _ (hq6 W hb).1).mono fun e w' ⟨q1, q2⟩ => ⟨q1, hb.trans (q2.mono hb.size)⟩
  have t5 : ∀ W, Below W2.heap.size W2 W → Calls Tryd.prog 16 #[.slice A0 a.length c0] W fun e w' => e = .returned (.bool (solvedV a)) ∧ Below W2.heap.size W2 w' := fun W hb => (solved_bind W a _ (hq6 W hb).2).mono fun e w' ⟨q1, q2⟩ => ⟨q1, hb.trans (q2.mono hb.size)⟩
  have t6 : ∀ W, Below W2.heap.size W2 W → Calls Tryd.prog 17 #[.slice A0 a.length c0] W fun e w' => e = .returned (.bool (solvedV a)) ∧ Below W2.heap.size W2 w' := fun W hb => (rsolved_bind W a _ (hq6 W hb).2).mono fun e w' ⟨q1, q2⟩ => ⟨q1, hb.trans (q2.mono hb.size)⟩
  have t7 : ∀ W, Below W2.heap.size W2 W → Calls Tryd.prog 18 #[.slice A0 a.length c0, .agg #[.int .i64 k, .int .i64 n, .slice u1 u2 u3]] W fun e w' => e = .returned (.int .i64 Z) ∧ Below W2.heap.size W2 w' := by
    intro W hb
    refine (size_bind W a _ (hq6 W hb).1 k n (u1, u2, u3) ps (HG.out _ (fin2 _ hb)).2 (by rw [HX.out]; omega)).mono ?_
    rintro e w' ⟨q1, q2⟩
    have h1 : ((1 + X.2.2.size : Nat) : Int) = Z := by rw [← hZ]; push_cast; rfl
    rw [HX.out, h1] at q1
    exact ⟨q1, hb.trans (q2.mono hb.size)⟩
  have t8 : ∀ W, Below W2.heap.size W2 W → Calls Tryd.prog 19 #[.agg #[.int .i64 X.1, .int .i64 X.2.1, .slice x1 x2 x3]] W fun e w' => e = .returned (.int .i64 Z) ∧ Below W2.heap.size W2 w' := by
    intro W hb
    refine (rsize_any (G.size + 1) G X.1 X.2.1 (.slice x1 x2 x3) W (by omega) (by omega) (hGt2.later hb)).mono ?_
    rintro e w' ⟨q1, q2⟩
    rw [hGs, hZ] at q1
    exact ⟨q1, hb.trans (q2.mono hb.size)⟩
  have aw2 : ∀ W, Below W2.heap.size W2 W → Calls Tryd.prog 10 #[] W fun e w' => e = .returned (.bool true) ∧ Below w.heap.size w w' ∧ Below W2.heap.size W2 w' := fun W hb => (awake10 W (ht.below (FIN.out _ (fin2 W hb)))).mono fun e w' ⟨q1, q2⟩ => ⟨q1, FIN.out _ (fin2 _ (hb.trans (q2.mono hb.size))), hb.trans (q2.mono hb.size)⟩
  obtain ⟨k0, k1, k2, k3, k4, k5⟩ := kc2 W2.drew (Below.refl W2.heap.size W2).drew
  obtain ⟨rg, hrg⟩ : ∃ b, rgt a = b := ⟨_, rfl⟩
  obtain ⟨so, hso⟩ : ∃ b, solvedV a = b := ⟨_, rfl⟩
  rw [hrg] at t3 t4
  rw [hso] at t5 t6
  have T1 := Lib.hid (t1 W2.drew (Below.refl W2.heap.size W2).drew)
  have T2 := Lib.hid t2
  have T3 := Lib.hid t3
  have T4 := Lib.hid t4
  have T5 := Lib.hid t5
  have T6 := Lib.hid t6
  have T7 := Lib.hid t7
  have T8 := Lib.hid t8
  have AW2 := Lib.hid aw2
  have KC2 := Lib.hid kc2
  clear t1 t2 t3 t4 t5 t6 t7 t8 aw2 kc2 hq6 hrg hso hZ hGs hXs hGt hGt2 hGp hF hB2 hbw2 hbwf hbf m0 m1 m2 f2 HG HX AW FIN KC HBC HB1 g0 fin2
  have e1 : (rg == rg) = true := beq_self_eq_true rg
  have e2 : (so == so) = true := beq_self_eq_true so
  have e3 : (Z == Z) = true := beq_self_eq_true Z
  go_wp2_with fail
  go_region_held3 (fun w' => w'.cell? ⟨wf.heap.size, 0, none⟩ = some (.int .i64 X.1) ∧ w'.cell? ⟨wf.heap.size, 1, none⟩ = some (.int .i64 X.2.1) ∧ w'.cell? ⟨wf.heap.size, 2, none⟩ = some (.slice x1 x2 x3) ∧ w'.cell? ⟨w.heap.size, 0, none⟩ = some (.int .i64 k) ∧ w'.cell? ⟨w.heap.size, 1, none⟩ = some (.int .i64 n) ∧ w'.cell? ⟨w.heap.size, 2, none⟩ = some (.slice u1 u2 u3))
    (first | exact ⟨k0, k1, k2, k3, k4, k5⟩ | exact kx9 | exact kx8 | exact kx7 | exact kx6 | exact kx5 | exact kx4 | exact kx3 | exact kx2 | exact kx1)
    (first
      | (go_at_call 13; with_reducible refine T1.out.mono ?_; rintro e y1 ⟨r1, r2, r3, R, rfl, hR1, hR2, hx1⟩; have kx1 := KC2.out _ hx1)
      | (go_at_call 12; with_reducible refine (T2.out _ _ _ _ _ hx1 hR1 hR2).mono ?_; rintro e y2 ⟨rfl, hx2⟩; have kx2 := KC2.out _ hx2)
      | (go_at_call 14; with_reducible refine (T3.out _ hx2).mono ?_; rintro e y3 ⟨rfl, hx3⟩; have kx3 := KC2.out _ hx3)
      | (go_at_call 15; with_reducible refine (T4.out _ hx3).mono ?_; rintro e y4 ⟨rfl, hx4⟩; have kx4 := KC2.out _ hx4)
      | (go_at_call 16; with_reducible refine (T5.out _ hx4).mono ?_; rintro e y5 ⟨rfl, hx5⟩; have kx5 := KC2.out _ hx5)
      | (go_at_call 17; with_reducible refine (T6.out _ hx5).mono ?_; rintro e y6 ⟨rfl, hx6⟩; have kx6 := KC2.out _ hx6)
      | (go_at_call 18; with_reducible refine (T7.out _ hx6).mono ?_; rintro e y7 ⟨rfl, hx7⟩; have kx7 := KC2.out _ hx7)
      | (go_at_call 19; with_reducible refine (T8.out _ hx7).mono ?_; rintro e y8 ⟨rfl, hx8⟩; have kx8 := KC2.out _ hx8)
      | (go_at_call 10; with_reducible refine (AW2.out _ hx8).mono ?_; rintro e y9 ⟨rfl, hz9, hx9⟩; have kx9 := KC2.out _ hx9))
  go_wp2_with fail
  go_ret
  exact ⟨rfl, hz9⟩
end Go.Proofs.YtifdbmdfkhnojaaDoor
/- What the cards of types share: the table that is laid. -/
namespace Go.Proofs.YtifdbmdfkhnojaaDoor.Card
open Go.ChangeShapes Go.WideShapes Go.ChangeAt Go.RowKit
set_option linter.unusedVariables false

theorem own : ownKnob Tryd.prog.godebug = none := by kernel_rfl
theorem laidOut : laidOutB Tryd.prog = true := by kernel_rfl
/-- What the row lists. -/
def laid3 : List (String × DataW Unit) := [("math/bits.deBruijn32tab", Rows.laid_math_bits_deBruijn32tab), ("math/bits.deBruijn64tab", Rows.laid_math_bits_deBruijn64tab), ("internal/strconv.uint64pow10", Rows.laid_internal_strconv_uint64pow10)]
theorem tabEq : (Rows.laid_internal_strconv_uint64pow10 : DataW Unit) = Lib.tabData .u64 Lib.pow10Tab := by rfl
theorem gPow : ∃ g t, Tryd.prog.globalNamed "internal/strconv.uint64pow10" = some g ∧ (Tryd.prog.globals[g]?).map (·.type) = some t ∧ ∃ n e, Tryd.prog.underlying t = some (.array n e) ∧ Tryd.prog.underlying e = some (.int .u64) ∧ Tryd.prog.cellsOf e = 1 ∧ Tryd.prog.cellsOf t = n := by
  exact ⟨0, 131, by kernel_rfl, by kernel_rfl, 20, 125, by kernel_rfl, by kernel_rfl, by kernel_rfl, by kernel_rfl⟩
theorem tab_of_laid {W : World} (h : laidMetH Tryd.prog laid3 W) : Tab W := by
  rw [MakeChecks.laidMetH_plain _ _ _ (by kernel_rfl)] at h
  obtain ⟨g, t, hg, hty, n, e, ht, he, hce, hct⟩ := gPow
  obtain ⟨ps, ⟨_, _, _, _, _, _, _, _, _, _, ⟨_, _, _, _, _, _, _, _, _, _, ⟨g', t', cs, fuel, p, q, hg', ht', hvar, hd, _, _⟩, _⟩, _⟩, _⟩ := h
  obtain rfl := Option.some.inj (hg.symm.trans hg')
  obtain rfl := Option.some.inj (hty.symm.trans ht')
  rw [tabEq] at hd
  unfold Tab Lib.TabIs
  rw [hvar, ← Lib.cells_of_tab ht he hce hct hd]
theorem door_met (os : Os) (args : Array Value) : laidMetH Tryd.prog laid3 ((World.doorLaid Tryd.prog 400 os).forCall (fun _ _ => 0) ⟨#[], args, []⟩).memory :=
  laidMetH_of_parts3 (fuel := 8) (laidMet_of_run' 8 (by kernel_rfl) (by kernel_rfl)) (by kernel_rfl) (by kernel_rfl)
end Go.Proofs.YtifdbmdfkhnojaaDoor.Card
