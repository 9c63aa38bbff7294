/- Texts of one proof, one behind the other. -/
import Derived.Test.YtifdbmdfkhnojaaDoorMgSubstAlike39
import Derived.Test.YtifdbmdfkhnojaaDoorMgSubstAlike26
import Derived.Test.YtifdbmdfkhnojaaDoorMgSubstAlike24
import Derived.Test.YtifdbmdfkhnojaaDoorMgSubstAlike13
import Derived.Test.YtifdbmdfkhnojaaDoorRows
import Derived.Test.YtifdbmdfkhnojaaDoorTie
import Derived.Test.YtifdbmdfkhnojaaDoorCards
import Derived.ProofKit
import Derived.LaidMore
import Derived.OpenShut
import Derived.Stop.Joined
import Derived.Lib.LaidTab
import Derived.SevenTiedAt
/- SubstAlike, walked. -/
namespace Go.Proofs.YtifdbmdfkhnojaaDoor
open Go.RowKit Go.Shelf
set_option maxHeartbeats 4000000 in
set_option maxRecDepth 100000 in
theorem alike_law (w : World) (ht : Tab w) (l0 l1 l2 : List Bnd) (v0 v1 v2 vv : Value) (vs : List Int) (h0 : BdV w.heap.size w l0 v0) (h1 : BdV w.heap.size w l1 v1) (h2 : BdV w.heap.size w l2 v2) (w0 : BdW l0) (w1 : BdW l1) (w2 : BdW l2)
    (hR : Rd w 1 vv vs.length (ints vs)) (hcap : vs.length ≤ 9223372036854775807) (hvw : ∀ v ∈ vs, (Lit.int .i64 v).wf = true) :
    Calls Tryd.prog 7 #[.agg #[v0, v1, v2], vv] w fun e w' => e = .returned (.bool true) ∧ Below w.heap.size w w' := by
  obtain ⟨A0, c0, rfl⟩ := h0.form
  obtain ⟨A1, c1, rfl⟩ := h1.form
  obtain ⟨A2, c2, rfl⟩ := h2.form
  obtain ⟨AV, cv, rfl⟩ := hR.form
  obtain ⟨W1, hW1⟩ : ∃ W1, w.alloc (.cells #[.slice A0 l0.length c0, .slice A1 l1.length c1, .slice A2 l2.length c2] 46) = W1 := ⟨_, rfl⟩
  have hb1 : Below w.heap.size w W1 := by rw [← hW1]; exact (Below.refl _ _).alloc (Nat.le_refl _) _
  have hB1 : W1.heap[w.heap.size]? = some (.cells #[.slice A0 l0.length c0, .slice A1 l1.length c1, .slice A2 l2.length c2] 46) := by rw [← hW1]; exact heap_alloc_new _ _
  have hlt : w.heap.size < W1.heap.size := by rw [← hW1]; simp
  have e0 : W1.cell? ⟨w.heap.size, 0, none⟩ = some (.slice A0 l0.length c0) := cell_of_row W1 _ 0 _ _ (0, 0) hB1
  have e1 : W1.cell? ⟨w.heap.size, 1, none⟩ = some (.slice A1 l1.length c1) := cell_of_row W1 _ 1 _ _ (0, 0) hB1
  have e2 : W1.cell? ⟨w.heap.size, 2, none⟩ = some (.slice A2 l2.length c2) := cell_of_row W1 _ 2 _ _ (0, 0) hB1
  have aw : ∀ W, Below W1.heap.size W1 W → Calls Tryd.prog 10 #[] W fun e w' => e = .returned (.bool true) ∧ Below W1.heap.size W1 w' := fun W hb => (awake10 W (ht.below (hb1.trans (hb.mono hb1.size)))).mono fun e w' ⟨q1, q2⟩ => ⟨q1, hb.trans (q2.mono hb.size)⟩
  have gr : ∀ (l : List Bnd) (v : Value), BdV w.heap.size w l v → ∀ W, Below W1.heap.size W1 W → Calls Tryd.prog 29 #[v] W fun e w' => e = .returned (.bool (greatV l || decide (60 < tsum l))) ∧ Below W1.heap.size W1 w' ∧
      w'.cell? ⟨w.heap.size, 0, none⟩ = some (.slice A0 l0.length c0) ∧ w'.cell? ⟨w.heap.size, 1, none⟩ = some (.slice A1 l1.length c1) ∧ w'.cell? ⟨w.heap.size, 2, none⟩ = some (.slice A2 l2.length c2) := fun l v hl W hb => (great2_bind W l v (hl.later (hb1.trans (hb.mono hb1.size)))).mono fun e w' ⟨q1, q2⟩ => by
    have q3 := hb.trans (q2.mono hb.size)
    exact ⟨q1, q3, (q3.cell (p := ⟨w.heap.size, 0, none⟩) hlt).trans e0, (q3.cell (p := ⟨w.heap.size, 1, none⟩) hlt).trans e1, (q3.cell (p := ⟨w.heap.size, 2, none⟩) hlt).trans e2⟩
  have g0 := gr l0 _ h0
  have g1 := gr l1 _ h1
  have g2 := gr l2 _ h2
  have gf : ∀ l : List Bnd, (greatV l || decide (60 < tsum l)) = false → l.length ≤ 24 ∧ ∀ b ∈ l, 1 + b.2.2.2.2.size ≤ 60 := fun l h => by
    rw [Bool.or_eq_false_iff, decide_eq_false_iff_not] at h
    exact ⟨(greatV_false h.1).1, fun b hb => by have := tsum_mem hb; omega⟩
  have AW := Lib.hid aw
  have G0 := Lib.hid g0
  have G1 := Lib.hid g1
  have G2 := Lib.hid g2
  have GF := Lib.hid gf
  have H0 := Lib.hid h0
  have H1 := Lib.hid h1
  have H2 := Lib.hid h2
  have HR := Lib.hid hR
  have HB1 := Lib.hid hb1
  have fin : ∀ w', Below W1.heap.size W1 w' → Below w.heap.size w w' := fun w' h => hb1.trans (h.mono hb1.size)
  have FIN := Lib.hid fin
  clear aw g0 g1 g2 gr gf h0 h1 h2 hR hb1 hB1 fin
  go_enter Tryd.func7, Tryd.ntmps7
  go_wp2_with fail
  refine (G0.out _ (Below.refl _ _)).mono ?_
  rintro e wa ⟨rfl, hba, a0, a1, a2⟩
  cases hg0 : (greatV l0 || decide (60 < tsum l0))
  rotate_left
  · go_wp2_with fail
    refine (AW.out _ hba).mono ?_
    rintro e wz ⟨rfl, hbz⟩
    go_wp2_with fail
    go_ret
    exact ⟨rfl, FIN.out _ hbz⟩
  have g0 := Lib.hid (GF.out l0 hg0)
  clear hg0
  go_wp2_with fail
  refine (G1.out _ hba).mono ?_
  rintro e wb ⟨rfl, hbb, b0, b1, b2⟩
  cases hg1 : (greatV l1 || decide (60 < tsum l1))
  rotate_left
  · go_wp2_with fail
    refine (AW.out _ hbb).mono ?_
    rintro e wz ⟨rfl, hbz⟩
    go_wp2_with fail
    go_ret
    exact ⟨rfl, FIN.out _ hbz⟩
  have g1 := Lib.hid (GF.out l1 hg1)
  clear hg1 a0 a1 a2
  go_wp2_with fail
  refine (G2.out _ hbb).mono ?_
  rintro e wc ⟨rfl, hbc, d0, d1, d2⟩
  cases hg2 : (greatV l2 || decide (60 < tsum l2))
  rotate_left
  · go_wp2_with fail
    refine (AW.out _ hbc).mono ?_
    rintro e wz ⟨rfl, hbz⟩
    go_wp2_with fail
    go_ret
    exact ⟨rfl, FIN.out _ hbz⟩
  have g2 := Lib.hid (GF.out l2 hg2)
  clear hg2 b0 b1 b2
  by_cases hv : vs.length ≤ 20
  rotate_left
  · have f1 : decide ((vs.length : Int) > (20 : Int)) = true := by simp; omega
    go_wp2_with fail
    refine (AW.out _ hbc).mono ?_
    rintro e wz ⟨rfl, hbz⟩
    go_wp2_with fail
    go_ret
    exact ⟨rfl, FIN.out _ hbz⟩
  have f1 : decide ((vs.length : Int) > (20 : Int)) = false := by simp; omega
  -- the four, and what they give
  have hG : ∀ W, Below W1.heap.size W1 W → BdG W l0 (.slice A0 l0.length c0) 60 ∧ BdG W l1 (.slice A1 l1.length c1) 60 ∧ BdG W l2 (.slice A2 l2.length c2) 60 := fun W hb =>
    ⟨⟨H0.out.later (FIN.out W hb), w0, by have := g0.out.1; omega, g0.out.2⟩, ⟨H1.out.later (FIN.out W hb), w1, by have := g1.out.1; omega, g1.out.2⟩, ⟨H2.out.later (FIN.out W hb), w2, by have := g2.out.1; omega, g2.out.2⟩⟩
  have kc : ∀ W, Below W1.heap.size W1 W → W.cell? ⟨w.heap.size, 0, none⟩ = some (.slice A0 l0.length c0) ∧ W.cell? ⟨w.heap.size, 1, none⟩ = some (.slice A1 l1.length c1) ∧ W.cell? ⟨w.heap.size, 2, none⟩ = some (.slice A2 l2.length c2) := fun W hb =>
    ⟨(hb.cell (p := ⟨w.heap.size, 0, none⟩) hlt).trans e0, (hb.cell (p := ⟨w.heap.size, 1, none⟩) hlt).trans e1, (hb.cell (p := ⟨w.heap.size, 2, none⟩) hlt).trans e2⟩
  have hl0 := g0.out.1
  have hl1 := g1.out.1
  have hl2 := g2.out.1
  have t1 : Calls Tryd.prog 21 #[.slice A0 l0.length c0, .slice A1 l1.length c1] wc.drew fun e w' => ∃ (v' : Value) (L : List Bnd), e = .returned v' ∧ BdG w' L v' 3600 ∧ sg L = comp (sg l0) (sg l1) ∧ L.length ≤ 48 ∧ Below W1.heap.size W1 w' := by
    refine (then_any wc.drew l0 l1 _ _ 60 60 (hG _ hbc.drew).1 (hG _ hbc.drew).2.1 (by omega) (by omega) (by omega) (by omega)).mono ?_
    rintro e w' ⟨v', L, q1, q2, q3, q4, q5⟩
    exact ⟨v', L, q1, q2, q3, by omega, hbc.drew.trans (q5.mono hbc.size)⟩
  have t2 : ∀ (W : World) (v' : Value) (L : List Bnd), Below W1.heap.size W1 W → BdG W L v' 3600 → L.length ≤ 48 → Calls Tryd.prog 21 #[v', .slice A2 l2.length c2] W fun e w' => ∃ (v'' : Value) (M : List Bnd), e = .returned v'' ∧ BdG w' M v'' 216000 ∧ sg M = comp (sg L) (sg l2) ∧ M.length ≤ 72 ∧ Below W1.heap.size W1 w' := by
    intro W v' L hb hL hlen
    refine (then_any W L l2 _ _ 3600 60 hL (hG _ hb).2.2 (by omega) (by omega) (by omega) (by omega)).mono ?_
    rintro e w' ⟨v'', M, q1, q2, q3, q4, q5⟩
    exact ⟨v'', M, q1, q2, q3, by omega, hb.trans (q5.mono hb.size)⟩
  have t3 : ∀ (W : World) (v'' : Value) (M : List Bnd), Below W1.heap.size W1 W → BdG W M v'' 216000 → Calls Tryd.prog 21 #[.slice A1 l1.length c1, .slice A2 l2.length c2] W fun e w' => ∃ (v' : Value) (N : List Bnd), e = .returned v' ∧ BdG w' N v' 3600 ∧ sg N = comp (sg l1) (sg l2) ∧ N.length ≤ 48 ∧ BdG w' M v'' 216000 ∧ Below W1.heap.size W1 w' := by
    intro W v'' M hb hM
    refine (then_any W l1 l2 _ _ 60 60 (hG _ hb).2.1 (hG _ hb).2.2 (by omega) (by omega) (by omega) (by omega)).mono ?_
    rintro e w' ⟨v', N, q1, q2, q3, q4, q5⟩
    exact ⟨v', N, q1, q2, q3, by omega, hM.later q5, hb.trans (q5.mono hb.size)⟩
  have t4 : ∀ (W : World) (v' : Value) (N : List Bnd) (v'' : Value) (M : List Bnd), Below W1.heap.size W1 W → BdG W N v' 3600 → N.length ≤ 48 → BdG W M v'' 216000 → Calls Tryd.prog 21 #[.slice A0 l0.length c0, v'] W fun e w' => ∃ (v3 : Value) (R : List Bnd), e = .returned v3 ∧ BdG w' R v3 216000 ∧ sg R = comp (sg l0) (sg N) ∧ R.length ≤ 72 ∧ BdG w' M v'' 216000 ∧ Below W1.heap.size W1 w' := by
    intro W v' N v'' M hb hN hlen hM
    refine (then_any W l0 N _ _ 60 3600 (hG _ hb).1 hN (by omega) (by omega) (by omega) (by omega)).mono ?_
    rintro e w' ⟨v3, R, q1, q2, q3, q4, q5⟩
    exact ⟨v3, R, q1, q2, q3, by omega, hM.later q5, hb.trans (q5.mono hb.size)⟩
  have t5 : ∀ (W : World) (v'' v3 : Value) (M R : List Bnd), Below W1.heap.size W1 W → BdG W M v'' 216000 → BdG W R v3 216000 → sg M = sg R → Calls Tryd.prog 25 #[v'', v3, .slice AV vs.length cv] W fun e w' => e = .returned (.bool true) ∧ Below W1.heap.size W1 w' := by
    intro W v'' v3 M R hb hM hN he
    refine (alike_bind W M R v'' v3 _ vs ⟨hM.at_, hM.wf, hM.len, fun x hx => by have := hM.size x hx; omega⟩ ⟨hN.at_, hN.wf, hN.len, fun x hx => by have := hN.size x hx; omega⟩ (HR.out.below (FIN.out W hb)) (by omega) hvw).mono ?_
    rintro e w' ⟨q1, q2⟩
    rw [alike_true _ _ _ he] at q1
    exact ⟨q1, hb.trans (q2.mono hb.size)⟩
  have T1 := Lib.hid t1
  have T2 := Lib.hid t2
  have T3 := Lib.hid t3
  have T4 := Lib.hid t4
  have T5 := Lib.hid t5
  have KC := Lib.hid kc
  have HBC := Lib.hid hbc
  have k0 : wc.drew.cell? ⟨w.heap.size, 0, none⟩ = some (.slice A0 l0.length c0) := d0
  have k1 : wc.drew.cell? ⟨w.heap.size, 1, none⟩ = some (.slice A1 l1.length c1) := d1
  have k2 : wc.drew.cell? ⟨w.heap.size, 2, none⟩ = some (.slice A2 l2.length c2) := d2
  clear t1 t2 t3 t4 t5 kc hG hbc hba hbb G0 G1 G2 GF g0 g1 g2 H0 H1 H2 HR HB1 e0 e1 e2
  go_wp2_with fail
  go_region_held3 (fun w' => w'.cell? ⟨w.heap.size, 0, none⟩ = some (.slice A0 l0.length c0) ∧ w'.cell? ⟨w.heap.size, 1, none⟩ = some (.slice A1 l1.length c1) ∧ w'.cell? ⟨w.heap.size, 2, none⟩ = some (.slice A2 l2.length c2))
    (first | exact ⟨k0, k1, k2⟩ | exact kx6 | exact kx5 | exact kx4 | exact kx3 | exact kx2 | exact kx1)
    (first
      | (go_at_call 21; with_reducible refine T1.out.mono ?_; rintro e x1 ⟨r1, L, rfl, hL1, hL2, hL3, hx1⟩; have kx1 := KC.out _ hx1)
      | (go_at_call 21; with_reducible refine (T2.out _ _ _ hx1 hL1 hL3).mono ?_; rintro e x2 ⟨r2, M, rfl, hM1, hM2, hM3, hx2⟩; have kx2 := KC.out _ hx2)
      | (go_at_call 21; with_reducible refine (T3.out _ _ _ hx2 hM1).mono ?_; rintro e x3 ⟨r3, N, rfl, hN1, hN2, hN3, hN4, hx3⟩; have kx3 := KC.out _ hx3)
      | (go_at_call 21; with_reducible refine (T4.out _ _ _ _ _ hx3 hN1 hN3 hN4).mono ?_; rintro e x4 ⟨r4, R, rfl, hR1, hR2, hR3, hR4, hx4⟩; have kx4 := KC.out _ hx4)
      | (go_at_call 25; with_reducible refine (T5.out _ _ _ _ _ hx4 hR4 hR1 (by rw [hM2, hL2, hR2, hN2, comp_assoc])).mono ?_; rintro e x5 ⟨rfl, hx5⟩; have kx5 := KC.out _ hx5)
      | (go_at_call 10; with_reducible refine (AW.out _ hx5).mono ?_; rintro e x6 ⟨rfl, hx6⟩; have kx6 := KC.out _ hx6))
  go_wp2_with fail
  go_ret
  exact ⟨rfl, FIN.out _ hx6⟩
end Go.Proofs.YtifdbmdfkhnojaaDoor
/- Arguments that are slices of binds, of numbers, three slices of binds: opened. -/
namespace Go.Proofs.YtifdbmdfkhnojaaDoor
open Go.RowKit Go.ChangeShapes Go.WideShapes Go.ChangeAt Go.Deep
set_option maxRecDepth 100000 in
theorem ArgI_open {H : Type} {enc : TypeId × Value → H} {W : World} {v : Value} {d : DataW H} {p : List MemPlace}
    (h : DataW.Trod enc Tryd.prog W 0 (fun _ => true) true 34 v d p) (hc : v.cells = #[v]) : ∃ L : List Int, Rd W 1 v L.length (ints L) ∧ L.length ≤ 9223372036854775807 ∧ ∀ x ∈ L, (Lit.int .i64 x).wf = true := by
  obtain ⟨fuel, hf⟩ := h
  rw [hc] at hf
  rcases DataW.trod_slice Tryd.underlying34 hf with ⟨hcs, _⟩ | ⟨a, len, cap, elems, rest, n, hfu, hcs, _, _, hl, hm, hlen, hel, _, _⟩
  · simp at hcs
    subst hcs
    exact ⟨[], ⟨rfl, .inl ⟨rfl, _, _, rfl⟩⟩, by simp, fun x hx => by cases hx⟩
  · simp at hcs
    subst hcs
    have hI : Tryd.prog.cellsOf 3 = 1 := by kernel_rfl
    rw [hI] at hel
    have key : ∀ i, i < len → ∃ x : Int, W.cell? (a.add (i * 1)) = some (.int .i64 x) ∧ (Lit.int .i64 x).wf = true := by
      intro i hil
      have he := hel i hil
      rw [List.getElem?_eq_getElem (by omega)] at he
      obtain ⟨cs', hcs, ht'⟩ := Option.bind_eq_some_iff.1 he
      obtain ⟨_, hcl, hat⟩ := World.cells?_some hcs
      obtain ⟨k0, hk0, _, hw0⟩ := DataW.trod_int Tryd.underlying3 ht'
      subst hk0
      refine ⟨k0, ?_, hw0⟩
      have := hat 0 (by simp)
      simpa [Addr.add] using this
    by_cases h0 : len = 0
    · subst h0
      exact ⟨[], ⟨rfl, .inl ⟨rfl, _, _, rfl⟩⟩, by simp, fun x hx => by cases hx⟩
    · obtain ⟨b, off, spot⟩ := a
      obtain ⟨t0, hc0, _⟩ := key 0 (by omega)
      have hspot : spot = none := by simpa [Addr.add] using World.cell?_spot hc0
      subst hspot
      have hb : b < W.heap.size := by simpa [Addr.add] using World.block_lt_of_cell? _ _ hc0
      obtain ⟨ts, htl, hP⟩ := listOf _ len key
      subst htl
      simp only [Addr.add_lit] at hP
      refine ⟨ts, ⟨by simp [ints], .inr ⟨b, off, cap, rfl, hl, hm, hb, fun j u hj => ?_⟩⟩, by unfold maxLen at hm; omega, fun x hx => ?_⟩
      · simp only [ints, List.getElem?_map, Option.map_eq_some_iff] at hj
        obtain ⟨x, hx, rfl⟩ := hj
        obtain ⟨hi, rfl⟩ := List.getElem?_eq_some_iff.1 hx
        have := (hP j hi).1
        simpa using this
      · obtain ⟨i, hi, rfl⟩ := List.mem_iff_getElem.1 hx
        exact (hP i hi).2
set_option maxRecDepth 100000 in
theorem ArgA3_open {H : Type} {enc : TypeId × Value → H} {W : World} {v : Value} {d : DataW H} {p : List MemPlace} {r : Reach} {base : Nat}
    (hv : Value.okWide Tryd.prog W r base 46 v) (h : DataW.Trod enc Tryd.prog W 0 (fun _ => true) true 46 v d p) :
    ∃ (v0 v1 v2 : Value) (l0 l1 l2 : List Bnd), v = .agg #[v0, v1, v2] ∧ BdV W.heap.size W l0 v0 ∧ BdV W.heap.size W l1 v1 ∧ BdV W.heap.size W l2 v2 ∧ BdW l0 ∧ BdW l1 ∧ BdW l2 := by
  obtain ⟨cs, rfl, hsz⟩ : ∃ cs, v = .agg cs ∧ cs.size = Tryd.prog.cellsOf 46 := by
    simp only [Value.okWide, Tryd.underlying46] at hv
    obtain ⟨cs, h1, h2, _⟩ := hv
    exact ⟨cs, h1, h2⟩
  have hC : Tryd.prog.cellsOf 46 = 3 := by kernel_rfl
  rw [hC] at hsz
  have hS : Tryd.prog.cellsOf 22 = 1 := by kernel_rfl
  obtain ⟨fuel, hf⟩ := h
  obtain ⟨xs, m, _, _, _, hxl, hel⟩ := DataW.trod_array Tryd.underlying46 hf
  rw [hS] at hel
  match cs, hsz with
  | ⟨[c0, c1, c2]⟩, _ =>
    have q0 := hel 0 (by omega)
    have q1 := hel 1 (by omega)
    have q2 := hel 2 (by omega)
    rw [List.getElem?_eq_getElem (by omega)] at q0 q1 q2
    obtain ⟨l0, h0, w0⟩ := binds_read m c0 _ q0
    obtain ⟨l1, h1, w1⟩ := binds_read m c1 _ q1
    obtain ⟨l2, h2, w2⟩ := binds_read m c2 _ q2
    exact ⟨c0, c1, c2, l0, l1, l2, rfl, h0, h1, h2, w0, w1, w2⟩
end Go.Proofs.YtifdbmdfkhnojaaDoor
/- What the cards of types share: the table that is laid. -/
namespace Go.Proofs.YtifdbmdfkhnojaaDoor.Card
open Go.ChangeShapes Go.WideShapes Go.ChangeAt Go.RowKit
set_option linter.unusedVariables false

theorem own : ownKnob Tryd.prog.godebug = none := by kernel_rfl
theorem laidOut : laidOutB Tryd.prog = true := by kernel_rfl
/-- What the row lists. -/
def laid3 : List (String × DataW Unit) := [("math/bits.deBruijn32tab", Rows.laid_math_bits_deBruijn32tab), ("math/bits.deBruijn64tab", Rows.laid_math_bits_deBruijn64tab), ("internal/strconv.uint64pow10", Rows.laid_internal_strconv_uint64pow10)]
theorem tabEq : (Rows.laid_internal_strconv_uint64pow10 : DataW Unit) = Lib.tabData .u64 Lib.pow10Tab := by rfl
theorem gPow : ∃ g t, Tryd.prog.globalNamed "internal/strconv.uint64pow10" = some g ∧ (Tryd.prog.globals[g]?).map (·.type) = some t ∧ ∃ n e, Tryd.prog.underlying t = some (.array n e) ∧ Tryd.prog.underlying e = some (.int .u64) ∧ Tryd.prog.cellsOf e = 1 ∧ Tryd.prog.cellsOf t = n := by
  exact ⟨0, 131, by kernel_rfl, by kernel_rfl, 20, 125, by kernel_rfl, by kernel_rfl, by kernel_rfl, by kernel_rfl⟩
theorem tab_of_laid {W : World} (h : laidMetH Tryd.prog laid3 W) : Tab W := by
  rw [MakeChecks.laidMetH_plain _ _ _ (by kernel_rfl)] at h
  obtain ⟨g, t, hg, hty, n, e, ht, he, hce, hct⟩ := gPow
  obtain ⟨ps, ⟨_, _, _, _, _, _, _, _, _, _, ⟨_, _, _, _, _, _, _, _, _, _, ⟨g', t', cs, fuel, p, q, hg', ht', hvar, hd, _, _⟩, _⟩, _⟩, _⟩ := h
  obtain rfl := Option.some.inj (hg.symm.trans hg')
  obtain rfl := Option.some.inj (hty.symm.trans ht')
  rw [tabEq] at hd
  unfold Tab Lib.TabIs
  rw [hvar, ← Lib.cells_of_tab ht he hce hct hd]
theorem door_met (os : Os) (args : Array Value) : laidMetH Tryd.prog laid3 ((World.doorLaid Tryd.prog 400 os).forCall (fun _ _ => 0) ⟨#[], args, []⟩).memory :=
  laidMetH_of_parts3 (fuel := 8) (laidMet_of_run' 8 (by kernel_rfl) (by kernel_rfl)) (by kernel_rfl) (by kernel_rfl)
end Go.Proofs.YtifdbmdfkhnojaaDoor.Card
