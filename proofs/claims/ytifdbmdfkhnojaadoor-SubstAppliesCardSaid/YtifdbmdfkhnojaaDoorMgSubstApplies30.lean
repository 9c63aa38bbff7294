/- Texts of one proof, one behind the other. -/
import Derived.Test.YtifdbmdfkhnojaaDoorMgSubstApplies29
import Derived.Test.YtifdbmdfkhnojaaDoorMgSubstApplies15
/- SubstRules, walked. -/
namespace Go.Proofs.YtifdbmdfkhnojaaDoor
open Go.RowKit Go.Shelf
theorem eq3_of {f g : Fo} {x y : Int × Int × Fo} (hf : f.pure = x.2.2) (hg : g.pure = y.2.2) : (x.1 == y.1 && x.2.1 == y.2.1 && f.same g) = eq3 x y := by
  unfold eq3
  rw [same_pure f g, hf, hg]
set_option maxHeartbeats 4000000 in
set_option maxRecDepth 100000 in
theorem rules_law (w : World) (ht : Tab w) (a b : List Bnd) (va vb : Value) (h0 : BdV w.heap.size w a va) (h1 : BdV w.heap.size w b vb) (w0 : BdW a) (w1 : BdW b) (k n : Int) (u : Sl) (ps : Fo) (hp : TyV w.heap.size w ps (slv u)) (hn : (Lit.int .i64 n).wf = true) (hpw : ps.wf) :
    Calls Tryd.prog 6 #[va, vb, tyVal k n (slv u)] w fun e w' => e = .returned (.bool true) ∧ Below w.heap.size w w' := by
  obtain ⟨A0, c0, rfl⟩ := h0.form
  obtain ⟨A1, c1, rfl⟩ := h1.form
  obtain ⟨u1, u2, u3⟩ := u
  dsimp only [tyVal, slv] at hp ⊢
  obtain ⟨W1, hW1⟩ : ∃ W1, w.alloc (.cells #[.int .i64 k, .int .i64 n, .slice u1 u2 u3] 25) = W1 := ⟨_, rfl⟩
  have hb1 : Below w.heap.size w W1 := by rw [← hW1]; exact (Below.refl _ _).alloc (Nat.le_refl _) _
  have hB1 : W1.heap[w.heap.size]? = some (.cells #[.int .i64 k, .int .i64 n, .slice u1 u2 u3] 25) := by rw [← hW1]; exact heap_alloc_new _ _
  have hlt : w.heap.size < W1.heap.size := by rw [← hW1]; simp
  have kc : ∀ W, Below W1.heap.size W1 W → W.cell? ⟨w.heap.size, 0, none⟩ = some (.int .i64 k) ∧ W.cell? ⟨w.heap.size, 1, none⟩ = some (.int .i64 n) ∧ W.cell? ⟨w.heap.size, 2, none⟩ = some (.slice u1 u2 u3) := fun W hb =>
    ⟨(hb.cell (p := ⟨w.heap.size, 0, none⟩) hlt).trans (cell_of_row W1 _ 0 _ _ (0, 0) hB1), (hb.cell (p := ⟨w.heap.size, 1, none⟩) hlt).trans (cell_of_row W1 _ 1 _ _ (0, 0) hB1), (hb.cell (p := ⟨w.heap.size, 2, none⟩) hlt).trans (cell_of_row W1 _ 2 _ _ (0, 0) hB1)⟩
  have fin : ∀ w', Below W1.heap.size W1 w' → Below w.heap.size w w' := fun w' h => hb1.trans (h.mono hb1.size)
  have aw : ∀ W, Below W1.heap.size W1 W → Calls Tryd.prog 10 #[] W fun e w' => e = .returned (.bool true) ∧ Below W1.heap.size W1 w' := fun W hb => (awake10 W (ht.below (fin W hb))).mono fun e w' ⟨q1, q2⟩ => ⟨q1, hb.trans (q2.mono hb.size)⟩
  have gr : ∀ (l : List Bnd) (v : Value), BdV w.heap.size w l v → ∀ W, Below W1.heap.size W1 W → Calls Tryd.prog 29 #[v] W fun e w' => e = .returned (.bool (greatV l || decide (60 < tsum l))) ∧ Below W1.heap.size W1 w' := fun l v hl W hb => (great2_bind W l v (hl.later (fin W hb))).mono fun e w' ⟨q1, q2⟩ => ⟨q1, hb.trans (q2.mono hb.size)⟩
  have g0 := gr a _ h0
  have g1 := gr b _ h1
  have g2 : ∀ W, Below W1.heap.size W1 W → Calls Tryd.prog 9 #[.agg #[.int .i64 k, .int .i64 n, .slice u1 u2 u3]] W fun e w' => e = .returned (.bool (!(decide (1 + ps.size ≤ 300) && decide (1 + ps.depth ≤ 40)))) ∧ Below W1.heap.size W1 w' := fun W hb => (great_any ps k n (.slice u1 u2 u3) W (hp.later (fin W hb))).mono fun e w' ⟨q1, q2⟩ => ⟨q1, hb.trans (q2.mono hb.size)⟩
  have g3 : ps.size ≤ 300 → ∀ W, Below W1.heap.size W1 W → Calls Tryd.prog 19 #[.agg #[.int .i64 k, .int .i64 n, .slice u1 u2 u3]] W fun e w' => e = .returned (.int .i64 (1 + ps.size)) ∧ Below W1.heap.size W1 w' := fun hs W hb => (rsize_any (ps.size + 1) ps k n (.slice u1 u2 u3) W (by omega) (by omega) (hp.later (fin W hb))).mono fun e w' ⟨q1, q2⟩ => ⟨q1, hb.trans (q2.mono hb.size)⟩
  have gf : ∀ l : List Bnd, (greatV l || decide (60 < tsum l)) = false → l.length ≤ 24 ∧ ∀ b ∈ l, 1 + b.2.2.2.2.size ≤ 60 := fun l h => by
    rw [Bool.or_eq_false_iff, decide_eq_false_iff_not] at h
    exact ⟨(greatV_false h.1).1, fun b hb => by have := tsum_mem hb; omega⟩
  have AW := Lib.hid aw
  have G0 := Lib.hid g0
  have G1 := Lib.hid g1
  have G2 := Lib.hid g2
  have G3 := Lib.hid g3
  have GF := Lib.hid gf
  have H0 := Lib.hid h0
  have H1 := Lib.hid h1
  have HP := Lib.hid hp
  have HB1 := Lib.hid hb1
  have FIN := Lib.hid fin
  have KC := Lib.hid kc
  obtain ⟨e0, e1, e2⟩ := kc W1 (Below.refl _ _)
  clear aw g0 g1 g2 g3 gr gf h0 h1 hp hb1 hB1 fin kc
  go_enter Tryd.func6, Tryd.ntmps6
  go_wp2_with fail
  refine (G0.out _ (Below.refl _ _)).mono ?_
  rintro e wa ⟨rfl, hba⟩
  cases hg0 : (greatV a || decide (60 < tsum a))
  rotate_left
  · go_wp2_with fail
    refine (AW.out _ hba).mono ?_
    rintro e wz ⟨rfl, hbz⟩
    go_wp2_with fail
    go_ret
    exact ⟨rfl, FIN.out _ hbz⟩
  have g0 := Lib.hid (GF.out a hg0)
  clear hg0
  go_wp2_with fail
  refine (G1.out _ hba).mono ?_
  rintro e wb ⟨rfl, hbb⟩
  cases hg1 : (greatV b || decide (60 < tsum b))
  rotate_left
  · go_wp2_with fail
    refine (AW.out _ hbb).mono ?_
    rintro e wz ⟨rfl, hbz⟩
    go_wp2_with fail
    go_ret
    exact ⟨rfl, FIN.out _ hbz⟩
  have g1 := Lib.hid (GF.out b hg1)
  obtain ⟨d0, d1, d2⟩ := KC.out _ hbb
  clear hg1
  go_wp2_with fail
  refine (G2.out _ hbb).mono ?_
  rintro e wc ⟨rfl, hbc⟩
  obtain ⟨m0, m1, m2⟩ := KC.out _ hbc
  clear d0 d1 d2
  by_cases hg : 1 + ps.size ≤ 300 ∧ 1 + ps.depth ≤ 40
  rotate_left
  · have f2 : (!(decide (1 + ps.size ≤ 300) && decide (1 + ps.depth ≤ 40))) = true := by
      simp only [Bool.not_eq_true', Bool.and_eq_false_iff, decide_eq_false_iff_not]
      omega
    rw [f2]
    go_wp2_with fail
    refine (AW.out _ hbc).mono ?_
    rintro e wz ⟨rfl, hbz⟩
    go_wp2_with fail
    go_ret
    exact ⟨rfl, FIN.out _ hbz⟩
  have f2 : (!(decide (1 + ps.size ≤ 300) && decide (1 + ps.depth ≤ 40))) = false := by simp [hg.1, hg.2]
  rw [f2]
  go_wp2_with fail
  refine (G3.out (by omega) _ hbc).mono ?_
  rintro e wd ⟨rfl, hbd⟩
  obtain ⟨n0, n1, n2⟩ := KC.out _ hbd
  clear m0 m1 m2 f2
  by_cases hs60 : ps.size ≤ 59
  rotate_left
  · have f3 : decide ((1 : Int) + (ps.size : Int) > 60) = true := by simp; omega
    go_wp2_with fail
    refine (AW.out _ hbd).mono ?_
    rintro e wz ⟨rfl, hbz⟩
    go_wp2_with fail
    go_ret
    exact ⟨rfl, FIN.out _ hbz⟩
  have f3 : decide ((1 : Int) + (ps.size : Int) > 60) = false := by simp; omega
  have hl0 := g0.out.1
  have hl1 := g1.out.1
  have hG : ∀ W, Below W1.heap.size W1 W → BdG W a (.slice A0 a.length c0) 60 ∧ BdG W b (.slice A1 b.length c1) 60 ∧ TyG W k n (u1, u2, u3) ps := fun W hb =>
    ⟨⟨H0.out.later (FIN.out W hb), w0, by omega, g0.out.2⟩, ⟨H1.out.later (FIN.out W hb), w1, by omega, g1.out.2⟩, ⟨HP.out.later (FIN.out W hb), by omega, hn, hpw⟩⟩
  obtain ⟨X, hX⟩ : ∃ X, Fo.sub1 (sg a) k n ps = X := ⟨_, rfl⟩
  have hXs : 1 + X.2.2.size ≤ 3600 := by
    rw [← hX]
    exact Nat.le_trans (sub1_le (sg a) 60 (by omega) (sg_size g0.out.2) k n ps) (by omega)
  have hXw := sub1_wf (sg a) (sg_wf w0) k n ps hn hpw
  rw [hX] at hXw
  have t0 := sapply_any wd a _ ⟨(hG _ hbd).1.at_, w0, by omega, fun x hx => by have := g0.out.2 x hx; omega⟩ k n (u1, u2, u3) ps (hG _ hbd).2.2
  rw [hX] at t0
  have T0 := Lib.hid t0
  have HG := Lib.hid hG
  have HX := Lib.hid hX
  have HXW := Lib.hid hXw
  have HBD := Lib.hid hbd
  clear t0 hG hX hXw hbd hba hbb hbc hg G0 G1 G2 G3 GF H0 H1 HP e0 e1 e2
  dsimp only [tyVal, slv] at T0
  go_wp2_with fail
  refine T0.out.mono ?_
  clear T0
  rintro e wf ⟨⟨x1, x2, x3⟩, rfl, hbf, hF⟩
  obtain ⟨G, hGp, hGt⟩ := hF.now
  have hbwf := HBD.out.trans (hbf.mono HBD.out.size)
  obtain ⟨W2, hW2⟩ : ∃ W2, wf.alloc (.cells #[.int .i64 X.1, .int .i64 X.2.1, .slice x1 x2 x3] 25) = W2 := ⟨_, rfl⟩
  have hb2 : Below W1.heap.size W1 W2 := by rw [← hW2]; exact hbwf.alloc hbwf.size _
  have hB2 : W2.heap[wf.heap.size]? = some (.cells #[.int .i64 X.1, .int .i64 X.2.1, .slice x1 x2 x3] 25) := by rw [← hW2]; exact heap_alloc_new _ _
  have hlt2 : wf.heap.size < W2.heap.size := by rw [← hW2]; simp
  have hbw2 : Below wf.heap.size wf W2 := by rw [← hW2]; exact (Below.refl _ _).alloc (Nat.le_refl _) _
  have hGt2 := hGt.later hbw2
  have kc2 : ∀ W, Below W2.heap.size W2 W → W.cell? ⟨wf.heap.size, 0, none⟩ = some (.int .i64 X.1) ∧ W.cell? ⟨wf.heap.size, 1, none⟩ = some (.int .i64 X.2.1) ∧ W.cell? ⟨wf.heap.size, 2, none⟩ = some (.slice x1 x2 x3) ∧ W.cell? ⟨w.heap.size, 0, none⟩ = some (.int .i64 k) ∧ W.cell? ⟨w.heap.size, 1, none⟩ = some (.int .i64 n) ∧ W.cell? ⟨w.heap.size, 2, none⟩ = some (.slice u1 u2 u3) := fun W hb =>
    ⟨(hb.cell (p := ⟨wf.heap.size, 0, none⟩) hlt2).trans (cell_of_row W2 _ 0 _ _ (0, 0) hB2), (hb.cell (p := ⟨wf.heap.size, 1, none⟩) hlt2).trans (cell_of_row W2 _ 1 _ _ (0, 0) hB2), (hb.cell (p := ⟨wf.heap.size, 2, none⟩) hlt2).trans (cell_of_row W2 _ 2 _ _ (0, 0) hB2), KC.out W (hb2.trans (hb.mono hb2.size))⟩
  have fin2 : ∀ w', Below W2.heap.size W2 w' → Below W1.heap.size W1 w' := fun w' h => hb2.trans (h.mono hb2.size)
  have hGX : ∀ W, Below W2.heap.size W2 W → TyG W X.1 X.2.1 (x1, x2, x3) G := fun W hb => ⟨hGt2.later hb, by rw [← Fo.pure_size, hGp]; omega, HXW.out.1, by rw [← pure_wf, hGp]; exact HXW.out.2⟩
  have hGs : G.size < 1000000 := by rw [← Fo.pure_size, hGp]; omega
  have hXp : X.2.2.pure = X.2.2 := by rw [← HX.out]; exact sub1_pure_out _ _ _ _
  have t1 : Calls Tryd.prog 21 #[.slice A0 a.length c0, .slice A1 b.length c1] W2.drew fun e w' => ∃ (v' : Value) (L : List Bnd), e = .returned v' ∧ BdG w' L v' 3600 ∧ sg L = comp (sg a) (sg b) ∧ Below W2.heap.size W2 w' := by
    have hq := HG.out _ (fin2 _ (Below.refl W2.heap.size W2).drew)
    refine (then_any W2.drew a b _ _ 60 60 hq.1 hq.2.1 (by omega) (by omega) (by omega) (by omega)).mono ?_
    rintro e w' ⟨v', L, q1, q2, q3, q4, q5⟩
    exact ⟨v', L, q1, q2, q3, (Below.refl W2.heap.size W2).drew.trans q5⟩
  obtain ⟨Y, hY⟩ : ∃ Y, Fo.sub1 (sg b) X.1 X.2.1 X.2.2 = Y := ⟨_, rfl⟩
  have hYs : 1 + Y.2.2.size ≤ 216000 := by
    rw [← hY]
    exact Nat.le_trans (sub1_le (sg b) 60 (by omega) (sg_size g1.out.2) _ _ _) (by omega)
  have t2 : ∀ (W : World) (v' : Value) (L : List Bnd), Below W2.heap.size W2 W → BdG W L v' 3600 → sg L = comp (sg a) (sg b) → Calls Tryd.prog 13 #[v', .agg #[.int .i64 k, .int .i64 n, .slice u1 u2 u3]] W fun e w' => ∃ (r1 : Option Addr) (r2 r3 : Nat) (R : Fo), e = .returned (.agg #[.int .i64 Y.1, .int .i64 Y.2.1, .slice r1 r2 r3]) ∧ TyV w'.heap.size w' R (.slice r1 r2 r3) ∧ R.pure = Y.2.2 ∧ Below W2.heap.size W2 w' := by
    intro W v' L hb hL he
    refine (sapply_any W L v' ⟨hL.at_, hL.wf, hL.len, fun x hx => by have := hL.size x hx; omega⟩ k n (u1, u2, u3) ps (HG.out _ (fin2 _ hb)).2.2).mono ?_
    rintro e w' ⟨⟨r1, r2, r3⟩, q1, q2, q3⟩
    rw [he, sub1_comp, HX.out, hY] at q1 q3
    obtain ⟨R, q4, q5⟩ := q3.now
    exact ⟨r1, r2, r3, R, q1, q5, q4, hb.trans (q2.mono hb.size)⟩
  have t3 : ∀ (W : World) (r1 : Option Addr) (r2 r3 : Nat) (R : Fo), Below W2.heap.size W2 W → TyV W.heap.size W R (.slice r1 r2 r3) → Calls Tryd.prog 13 #[.slice A1 b.length c1, .agg #[.int .i64 X.1, .int .i64 X.2.1, .slice x1 x2 x3]] W fun e w' => ∃ (s1 : Option Addr) (s2 s3 : Nat) (S : Fo), e = .returned (.agg #[.int .i64 Y.1, .int .i64 Y.2.1, .slice s1 s2 s3]) ∧ TyV w'.heap.size w' S (.slice s1 s2 s3) ∧ S.pure = Y.2.2 ∧ TyV w'.heap.size w' R (.slice r1 r2 r3) ∧ Below W2.heap.size W2 w' := by
    intro W r1 r2 r3 R hb hR
    have hq := (HG.out _ (fin2 _ hb)).2.1
    refine (sapply_any W b _ ⟨hq.at_, hq.wf, hq.len, fun x hx => by have := hq.size x hx; omega⟩ X.1 X.2.1 (x1, x2, x3) G (hGX W hb)).mono ?_
    rintro e w' ⟨⟨s1, s2, s3⟩, q1, q2, q3⟩
    rw [← Fo.sub1_pure, hGp, hY] at q1 q3
    obtain ⟨S, q4, q5⟩ := q3.now
    exact ⟨s1, s2, s3, S, q1, q5, q4, hR.later q2, hb.trans (q2.mono hb.size)⟩
  have t4 : ∀ (W : World) (r1 : Option Addr) (r2 r3 : Nat) (R : Fo) (s1 : Option Addr) (s2 s3 : Nat) (S : Fo), Below W2.heap.size W2 W → TyV W.heap.size W R (.slice r1 r2 r3) → R.pure = Y.2.2 → TyV W.heap.size W S (.slice s1 s2 s3) → S.pure = Y.2.2 → Calls Tryd.prog 12 #[.agg #[.int .i64 Y.1, .int .i64 Y.2.1, .slice r1 r2 r3], .agg #[.int .i64 Y.1, .int .i64 Y.2.1, .slice s1 s2 s3]] W fun e w' => e = .returned (.bool true) ∧ Below W2.heap.size W2 w' := by
    intro W r1 r2 r3 R s1 s2 s3 S hb hR hRp hS hSp
    refine (rsame_any (R.size + 1) R S Y.1 Y.2.1 Y.1 Y.2.1 (.slice r1 r2 r3) (.slice s1 s2 s3) W (by omega) (by rw [← Fo.pure_size, hRp]; omega) (by rw [← Fo.pure_size, hSp]; omega) hR hS).mono ?_
    rintro e w' ⟨q1, q2⟩
    rw [eq3_of (x := Y) (y := Y) hRp hSp, eq3_refl] at q1
    exact ⟨q1, hb.trans (q2.mono hb.size)⟩
  have t5 : ∀ W, Below W2.heap.size W2 W → Calls Tryd.prog 16 #[.slice A0 a.length c0] W fun e w' => e = .returned (.bool (solvedV a)) ∧ Below W2.heap.size W2 w' := by
    intro W hb
    have hq := (HG.out _ (fin2 _ hb)).1
    exact (solved_bind W a _ ⟨hq.at_, hq.wf, hq.len, fun x hx => by have := hq.size x hx; omega⟩).mono fun e w' ⟨q1, q2⟩ => ⟨q1, hb.trans (q2.mono hb.size)⟩
  have t6 : solvedV a = true → ∀ W, Below W2.heap.size W2 W → Calls Tryd.prog 13 #[.slice A0 a.length c0, .agg #[.int .i64 X.1, .int .i64 X.2.1, .slice x1 x2 x3]] W fun e w' => ∃ (s1 : Option Addr) (s2 s3 : Nat) (S : Fo), e = .returned (.agg #[.int .i64 X.1, .int .i64 X.2.1, .slice s1 s2 s3]) ∧ TyV w'.heap.size w' S (.slice s1 s2 s3) ∧ S.pure = X.2.2 ∧ Below W2.heap.size W2 w' := by
    intro hso W hb
    have hq := (HG.out _ (fin2 _ hb)).1
    refine (sapply_any W a _ ⟨hq.at_, hq.wf, hq.len, fun x hx => by have := hq.size x hx; omega⟩ X.1 X.2.1 (x1, x2, x3) G (hGX W hb)).mono ?_
    rintro e w' ⟨⟨s1, s2, s3⟩, q1, q2, q3⟩
    have hid := solved_idem a hso k n ps
    rw [HX.out] at hid
    rw [← Fo.sub1_pure, hGp, hid] at q1 q3
    obtain ⟨S, q4, q5⟩ := q3.now
    exact ⟨s1, s2, s3, S, q1, q5, q4, hb.trans (q2.mono hb.size)⟩
  have t7 : ∀ (W : World) (s1 : Option Addr) (s2 s3 : Nat) (S : Fo), Below W2.heap.size W2 W → TyV W.heap.size W S (.slice s1 s2 s3) → S.pure = X.2.2 → Calls Tryd.prog 12 #[.agg #[.int .i64 X.1, .int .i64 X.2.1, .slice s1 s2 s3], .agg #[.int .i64 X.1, .int .i64 X.2.1, .slice x1 x2 x3]] W fun e w' => e = .returned (.bool true) ∧ Below W2.heap.size W2 w' := by
    intro W s1 s2 s3 S hb hS hSp
    refine (rsame_any (S.size + 1) S G X.1 X.2.1 X.1 X.2.1 (.slice s1 s2 s3) (.slice x1 x2 x3) W (by omega) (by rw [← Fo.pure_size, hSp]; omega) (by omega) hS (hGX W hb).at_).mono ?_
    rintro e w' ⟨q1, q2⟩
    rw [eq3_of (x := X) (y := X) hSp hGp, eq3_refl] at q1
    exact ⟨q1, hb.trans (q2.mono hb.size)⟩
  have aw2 : ∀ W, Below W2.heap.size W2 W → Calls Tryd.prog 10 #[] W fun e w' => e = .returned (.bool true) ∧ Below w.heap.size w w' ∧ Below W2.heap.size W2 w' := fun W hb => (awake10 W (ht.below (FIN.out _ (fin2 W hb)))).mono fun e w' ⟨q1, q2⟩ => ⟨q1, FIN.out _ (fin2 _ (hb.trans (q2.mono hb.size))), hb.trans (q2.mono hb.size)⟩
  obtain ⟨k0, k1, k2, k3, k4, k5⟩ := kc2 W2.drew (Below.refl W2.heap.size W2).drew
  have T1 := Lib.hid t1
  have T2 := Lib.hid t2
  have T3 := Lib.hid t3
  have T4 := Lib.hid t4
  have T5 := Lib.hid t5
  have T6 := Lib.hid t6
  have T7 := Lib.hid t7
  have AW2 := Lib.hid aw2
  have KC2 := Lib.hid kc2
  have HG2 := HG
  have FIN2 := FIN
  clear t1 t2 t3 t4 t5 t6 t7 aw2 kc2 hGX hGs hXp hY hYs hXs hGt hGt2 hGp hF hB2 hbw2 hbwf hbf n0 n1 n2 HG HX HXW AW FIN KC HBD HB1 g0 g1
  go_wp2_with fail
  go_region_held3 (fun w' => w'.cell? ⟨wf.heap.size, 0, none⟩ = some (.int .i64 X.1) ∧ w'.cell? ⟨wf.heap.size, 1, none⟩ = some (.int .i64 X.2.1) ∧ w'.cell? ⟨wf.heap.size, 2, none⟩ = some (.slice x1 x2 x3) ∧ w'.cell? ⟨w.heap.size, 0, none⟩ = some (.int .i64 k) ∧ w'.cell? ⟨w.heap.size, 1, none⟩ = some (.int .i64 n) ∧ w'.cell? ⟨w.heap.size, 2, none⟩ = some (.slice u1 u2 u3))
    (first | exact ⟨k0, k1, k2, k3, k4, k5⟩ | exact kx4 | exact kx3 | exact kx2 | exact kx1)
    (first
      | (go_at_call 21; with_reducible refine T1.out.mono ?_; rintro e y1 ⟨r1, L, rfl, hL1, hL2, hx1⟩; have kx1 := KC2.out _ hx1)
      | (go_at_call 13; with_reducible refine (T2.out _ _ _ hx1 hL1 hL2).mono ?_; rintro e y2 ⟨p1, p2, p3, R, rfl, hR1, hR2, hx2⟩; have kx2 := KC2.out _ hx2)
      | (go_at_call 13; with_reducible refine (T3.out _ _ _ _ _ hx2 hR1).mono ?_; rintro e y3 ⟨q1, q2, q3, S, rfl, hS1, hS2, hS3, hx3⟩; have kx3 := KC2.out _ hx3)
      | (go_at_call 12; with_reducible refine (T4.out _ _ _ _ _ _ _ _ _ hx3 hS3 hR2 hS1 hS2).mono ?_; rintro e y4 ⟨rfl, hx4⟩; have kx4 := KC2.out _ hx4))
  obtain ⟨m0, m1, m2, m3, m4, m5⟩ := KC2.out _ hx4
  clear kx1 kx2 kx3 kx4 k0 k1 k2 k3 k4 k5 hx1 hx2 hx3 hL1 hL2 hR1 hR2 hS1 hS2 hS3 T1 T2 T3 T4
  go_wp2_with fail
  have hx5 := hx4.drew
  have kd : y4.drew.cell? ⟨wf.heap.size, 0, none⟩ = some (.int .i64 X.1) ∧ y4.drew.cell? ⟨wf.heap.size, 1, none⟩ = some (.int .i64 X.2.1) ∧ y4.drew.cell? ⟨wf.heap.size, 2, none⟩ = some (.slice x1 x2 x3) ∧ y4.drew.cell? ⟨w.heap.size, 0, none⟩ = some (.int .i64 k) ∧ y4.drew.cell? ⟨w.heap.size, 1, none⟩ = some (.int .i64 n) ∧ y4.drew.cell? ⟨w.heap.size, 2, none⟩ = some (.slice u1 u2 u3) := KC2.out _ hx5
  clear m0 m1 m2 m3 m4 m5
  have hso5 := T5.out _ hx5
  have SO := Lib.hid hso5
  clear hso5 T5
  cases hso : solvedV a
  · have sof : Gives Tryd.prog 16 #[.slice A0 a.length c0] y4.drew (fun v _ => v = .bool false) := by
      have hq := (HG2.out _ (fin2 _ hx5)).1
      have := solved_bind y4.drew a _ ⟨hq.at_, hq.wf, hq.len, fun x hx => by have := hq.size x hx; omega⟩
      rw [hso] at this
      exact gives_of this
    have awf : ∀ W, Below W2.heap.size W2 W → Gives Tryd.prog 10 #[] W (fun v _ => v = .bool true) := fun W hb => gives_of (awake10 W (ht.below (FIN2.out _ (fin2 W hb))))
    have SOF := Lib.hid sof
    have AWF := Lib.hid awf
    have HS := Lib.hid (show LS W2 y4.drew from hx5)
    clear T6 T7 hso kd sof awf hx5 SO
    refine wp_region_held (S := LS W2) (by kernel_rfl) ?_
    change wpAnyH _ _ _ _ _ 14 (List.replicate 14 false).toArray _ y4.drew
    simp only [List.replicate_succ, List.replicate_zero]
    refine any_take (i := 0) (some 37) (.slice A0 a.length c0) rfl (by rfl) (by kernel_rfl) (by kernel_rfl) (by kernel_rfl) (fun _ _ _ h => h) (Or.inl ⟨by kernel_rfl, (fun w _ => by go_simp)⟩) HS.out ?_
    simp only [Act.put, List.setIfInBounds_toArray, List.set_cons_zero, List.set_cons_succ]
    refine any_one_d (i := 1) (some 38) rfl (by rfl) (by kernel_rfl) (by kernel_rfl) (by go_simp) HS.out SOF.out ?_
    rintro v z1 hbn hsn rfl
    have HS := Lib.hid (show LS W2 z1 from hsn)
    clear hbn hsn
    simp only [Act.put, List.setIfInBounds_toArray, List.set_cons_zero, List.set_cons_succ]
    refine any_take (i := 2) (some 39) (.bool true) rfl (by rfl) (by kernel_rfl) (by kernel_rfl) (by kernel_rfl) (fun _ _ _ h => h) (Or.inl ⟨by kernel_rfl, (fun w _ => by go_simp)⟩) HS.out ?_
    simp only [Act.put, List.setIfInBounds_toArray, List.set_cons_zero, List.set_cons_succ]
    refine any_take (i := 3) (some 40) (.bool true) rfl (by rfl) (by kernel_rfl) (by kernel_rfl) (by kernel_rfl) (fun _ _ _ h => h) (Or.inl ⟨by kernel_rfl, (fun w _ => by go_simp)⟩) HS.out ?_
    simp only [Act.put, List.setIfInBounds_toArray, List.set_cons_zero, List.set_cons_succ]
    refine any_take (i := 4) (some 41) undef rfl (by rfl) (by kernel_rfl) (by kernel_rfl) (by kernel_rfl) (fun _ _ _ h => h) (Or.inr ⟨by kernel_rfl, rfl⟩) HS.out ?_
    simp only [Act.put, List.setIfInBounds_toArray, List.set_cons_zero, List.set_cons_succ]
    refine any_take (i := 5) (some 42) undef rfl (by rfl) (by kernel_rfl) (by kernel_rfl) (by kernel_rfl) (fun _ _ _ h => h) (Or.inr ⟨by kernel_rfl, rfl⟩) HS.out ?_
    simp only [Act.put, List.setIfInBounds_toArray, List.set_cons_zero, List.set_cons_succ]
    refine any_take (i := 6) (some 43) undef rfl (by rfl) (by kernel_rfl) (by kernel_rfl) (by kernel_rfl) (fun _ _ _ h => h) (Or.inr ⟨by kernel_rfl, rfl⟩) HS.out ?_
    simp only [Act.put, List.setIfInBounds_toArray, List.set_cons_zero, List.set_cons_succ]
    refine any_take (i := 7) (some 44) undef rfl (by rfl) (by kernel_rfl) (by kernel_rfl) (by kernel_rfl) (fun _ _ _ h => h) (Or.inr ⟨by kernel_rfl, rfl⟩) HS.out ?_
    simp only [Act.put, List.setIfInBounds_toArray, List.set_cons_zero, List.set_cons_succ]
    refine any_take (i := 8) (some 45) undef rfl (by rfl) (by kernel_rfl) (by kernel_rfl) (by kernel_rfl) (fun _ _ _ h => h) (Or.inr ⟨by kernel_rfl, rfl⟩) HS.out ?_
    simp only [Act.put, List.setIfInBounds_toArray, List.set_cons_zero, List.set_cons_succ]
    refine any_take (i := 9) (some 46) (.bool true) rfl (by rfl) (by kernel_rfl) (by kernel_rfl) (by kernel_rfl) (fun _ _ _ h => h) (Or.inl ⟨by kernel_rfl, (fun w _ => by go_simp)⟩) HS.out ?_
    simp only [Act.put, List.setIfInBounds_toArray, List.set_cons_zero, List.set_cons_succ]
    refine any_take (i := 10) (some 47) (.bool true) rfl (by rfl) (by kernel_rfl) (by kernel_rfl) (by kernel_rfl) (fun _ _ _ h => h) (Or.inl ⟨by kernel_rfl, (fun w _ => by go_simp)⟩) HS.out ?_
    simp only [Act.put, List.setIfInBounds_toArray, List.set_cons_zero, List.set_cons_succ]
    refine any_one_d (i := 11) (some 48) rfl (by rfl) (by kernel_rfl) (by kernel_rfl) (by go_simp) HS.out (AWF.out _ HS.out) ?_
    rintro v z2 hbn hsn rfl
    have HS := Lib.hid (show LS W2 z2 from hsn)
    clear hbn hsn
    simp only [Act.put, List.setIfInBounds_toArray, List.set_cons_zero, List.set_cons_succ]
    refine any_take (i := 12) (some 49) (.bool true) rfl (by rfl) (by kernel_rfl) (by kernel_rfl) (by kernel_rfl) (fun _ _ _ h => h) (Or.inl ⟨by kernel_rfl, (fun w _ => by go_simp)⟩) HS.out ?_
    simp only [Act.put, List.setIfInBounds_toArray, List.set_cons_zero, List.set_cons_succ]
    refine any_take (i := 13) (some 6) (.bool true) rfl (by rfl) (by kernel_rfl) (by kernel_rfl) (by kernel_rfl) (fun _ _ _ h => h) (Or.inl ⟨by kernel_rfl, (fun w _ => by go_simp)⟩) HS.out ?_
    simp only [Act.put, List.setIfInBounds_toArray, List.set_cons_zero, List.set_cons_succ]
    refine wpAnyH_done (by kernel_rfl) ?_ _
    go_wp2_with fail
    exact bodyPost_ret (results_tmp rfl _ _ _) rfl ⟨rfl, FIN2.out _ (fin2 _ HS.out)⟩
  · rw [hso] at SO
    have T6' := Lib.hid (T6.out hso)
    clear T6 hso
    go_region_held3 (fun w' => w'.cell? ⟨wf.heap.size, 0, none⟩ = some (.int .i64 X.1) ∧ w'.cell? ⟨wf.heap.size, 1, none⟩ = some (.int .i64 X.2.1) ∧ w'.cell? ⟨wf.heap.size, 2, none⟩ = some (.slice x1 x2 x3) ∧ w'.cell? ⟨w.heap.size, 0, none⟩ = some (.int .i64 k) ∧ w'.cell? ⟨w.heap.size, 1, none⟩ = some (.int .i64 n) ∧ w'.cell? ⟨w.heap.size, 2, none⟩ = some (.slice u1 u2 u3))
      (first | exact kd | exact kx4 | exact kx3 | exact kx2 | exact kx1)
      (first
        | (go_at_call 16; with_reducible refine SO.out.mono ?_; rintro e z1 ⟨rfl, hz1⟩; have kx1 := KC2.out _ hz1)
        | (go_at_call 13; with_reducible refine (T6'.out _ hz1).mono ?_; rintro e z2 ⟨p1, p2, p3, R, rfl, hR1, hR2, hz2⟩; have kx2 := KC2.out _ hz2)
        | (go_at_call 12; with_reducible refine (T7.out _ _ _ _ _ hz2 hR1 hR2).mono ?_; rintro e z3 ⟨rfl, hz3⟩; have kx3 := KC2.out _ hz3)
        | (go_at_call 10; with_reducible refine (AW2.out _ hz3).mono ?_; rintro e z4 ⟨rfl, hz4, hz4'⟩; have kx4 := KC2.out _ hz4'))
    go_wp2_with fail
    go_ret
    exact ⟨rfl, hz4⟩
end Go.Proofs.YtifdbmdfkhnojaaDoor
