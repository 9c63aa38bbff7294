/- UnionNone: of no forest nothing comes; which forests there may be. -/
import Derived.Test.YtamieophdnnbnaaUnU
namespace Go.Proofs.Ytamieophdnnbnaa.Un
open Go.RowKit

abbrev nilp : Value := .pointer none
set_option maxRecDepth 100000 in
theorem len_nil (w : World) : Calls Try.prog 21 #[nilp] w fun e w' => e = .returned (.int .i64 0) ∧ w' = w := by
  go_enter Try.func21, Try.ntmps21
  go_wp2_with fail
  go_ret
  exact ⟨rfl, rfl⟩
set_option maxRecDepth 100000 in
theorem sets_nil (w : World) : Calls Try.prog 22 #[nilp] w fun e w' => e = .returned (.int .i64 0) ∧ w' = w := by
  go_enter Try.func22, Try.ntmps22
  go_wp2_with fail
  go_ret
  exact ⟨rfl, rfl⟩
set_option maxRecDepth 100000 in
theorem steps_nil (w : World) : Calls Try.prog 24 #[nilp] w fun e w' => e = .returned (.int .i64 0) ∧ w' = w := by
  go_enter Try.func24, Try.ntmps24
  go_wp2_with fail
  go_ret
  exact ⟨rfl, rfl⟩
set_option maxRecDepth 100000 in
theorem copy_nil (w : World) : Calls Try.prog 26 #[nilp] w fun e w' => e = .returned nilp ∧ w' = w := by
  go_enter Try.func26, Try.ntmps26
  go_wp2_with fail
  go_ret
  exact ⟨rfl, rfl⟩
set_option maxRecDepth 100000 in
theorem add_nil (w : World) : Calls Try.prog 11 #[nilp] w fun e w' => e = .returned (.int .i64 (-1)) ∧ w' = w := by
  go_enter Try.func11, Try.ntmps11
  go_wp2_with fail
  go_ret
  exact ⟨rfl, rfl⟩
set_option maxRecDepth 100000 in
theorem has_nil (w : World) (i : Int) : Calls Try.prog 27 #[nilp, .int .i64 i] w fun e w' => e = .returned (.bool false) ∧ w' = w := by
  by_cases hi : 0 ≤ i
  · have f1 : decide (0 ≤ i) = true := decide_eq_true hi
    have f2 : decide (i < 0) = false := decide_eq_false (by omega)
    have HL := len_nil w
    go_enter Try.func27, Try.ntmps27
    go_wp2_with fail
    refine HL.mono ?_
    rintro e w' ⟨rfl, rfl⟩
    go_wp2_with fail
    go_ret
    exact ⟨rfl, rfl⟩
  · have f1 : decide (0 ≤ i) = false := decide_eq_false hi
    go_enter Try.func27, Try.ntmps27
    go_wp2_with fail
    go_ret
    exact ⟨rfl, rfl⟩
set_option maxRecDepth 100000 in
theorem root_nil (w : World) (i : Int) : Calls Try.prog 16 #[nilp, .int .i64 i] w fun e w' => e = .returned (.tuple #[.int .i64 0, .bool false]) ∧ w' = w := by
  have HH := has_nil w i
  go_enter Try.func16, Try.ntmps16
  go_wp2_with fail
  refine HH.mono ?_
  rintro e w' ⟨rfl, rfl⟩
  go_wp2_with fail
  go_ret2
  exact ⟨rfl, rfl⟩
set_option maxRecDepth 100000 in
theorem join_nil (w : World) (i j : Int) : Calls Try.prog 12 #[nilp, .int .i64 i, .int .i64 j] w fun e w' => e = .returned (.tuple #[.int .i64 0, .bool false]) ∧ w' = w := by
  have HH := has_nil w i
  go_enter Try.func12, Try.ntmps12
  go_wp2_with fail
  refine HH.mono ?_
  rintro e w' ⟨rfl, rfl⟩
  go_wp2_with fail
  go_ret2
  exact ⟨rfl, rfl⟩
set_option maxRecDepth 100000 in
theorem same_nil (w : World) (i j : Int) : Calls Try.prog 20 #[nilp, .int .i64 i, .int .i64 j] w fun e w' => e = .returned (.bool false) ∧ w' = w := by
  have HH := has_nil w i
  go_enter Try.func20, Try.ntmps20
  go_wp2_with fail
  refine HH.mono ?_
  rintro e w' ⟨rfl, rfl⟩
  go_wp2_with fail
  go_ret
  exact ⟨rfl, rfl⟩
set_option maxRecDepth 100000 in
theorem set_nil (w : World) (i : Int) : Calls Try.prog 18 #[nilp, .int .i64 i] w fun e w' => e = .returned (.slice none 0 0) ∧ w' = w := by
  have HH := has_nil w i
  go_enter Try.func18, Try.ntmps18
  go_wp2_with fail
  refine HH.mono ?_
  rintro e w' ⟨rfl, rfl⟩
  go_wp2_with fail
  go_ret
  exact ⟨rfl, rfl⟩
set_option maxRecDepth 100000 in
theorem new_out (w : World) (n : Int) (hn : ¬ (0 ≤ n ∧ n ≤ 1048576)) : Calls Try.prog 9 #[.int .i64 n] w fun e w' => e = .returned (.tuple #[nilp, .int .i64 1]) ∧ w' = w := by
  by_cases h : n < 0
  · have f1 : decide (n < 0) = true := decide_eq_true h
    go_enter Try.func9, Try.ntmps9
    go_wp2_with fail
    go_ret2
    exact ⟨rfl, rfl⟩
  · have f1 : decide (n < 0) = false := decide_eq_false h
    have f2 : decide ((1048576 : Int) < n) = true := decide_eq_true (by omega)
    go_enter Try.func9, Try.ntmps9
    go_wp2_with fail
    go_ret2
    exact ⟨rfl, rfl⟩
/-- New, of any number. -/
theorem new_any (w : World) (n : Int) : Calls Try.prog 9 #[.int .i64 n] w fun e w' => Below w.heap.size w w' ∧ ((0 ≤ n ∧ n ≤ 1048576) ∧ e = .returned (.tuple #[.pointer (some ⟨w.heap.size, 0, none⟩), .int .i64 0]) ∨ ¬ (0 ≤ n ∧ n ≤ 1048576) ∧ e = .returned (.tuple #[nilp, .int .i64 1])) := by
  by_cases h : 0 ≤ n ∧ n ≤ 1048576
  · obtain ⟨m, rfl⟩ := Int.eq_ofNat_of_zero_le h.1
    refine (new_in w m (by omega)).mono ?_
    rintro e w' ⟨rfl, _, hB⟩
    exact ⟨hB, .inl ⟨h, rfl⟩⟩
  · refine (new_out w n h).mono ?_
    rintro e w' ⟨rfl, rfl⟩
    exact ⟨Below.refl _ _, .inr ⟨h, rfl⟩⟩
set_option maxRecDepth 100000 in
set_option maxHeartbeats 2000000 in
theorem none_a (w : World) (n i k : Int) (h1 : 2000 < n) (h2 : n ≤ 1048576) : Calls Try.prog 7 #[.int .i64 n, .int .i64 i, .int .i64 k] w fun e w' => e = .returned (.bool true) ∧ Below w.heap.size w w' := by
  have HN := new_any w 2000
  have f1 : decide ((2000 : Int) < n) = true := decide_eq_true h1
  have f2 : decide (n ≤ 1048576) = true := decide_eq_true h2
  go_enter Try.func7, Try.ntmps7
  go_wp2_with fail
  refine HN.mono ?_
  rintro e w1 ⟨hB, ⟨hx, rfl⟩ | ⟨hx, rfl⟩⟩
  · have HB := Lib.hid hB
    have g1 := root_nil w1 i
    have g2 := join_nil w1 i k
    have g3 := add_nil w1
    have g4 := same_nil w1 i k
    have g5 := len_nil w1
    have g6 := sets_nil w1
    have g7 := set_nil w1 i
    have g8 := steps_nil w1
    have g9 := copy_nil w1
    have g10 := awake_any w1
    clear hB HN
    go_wp2_with fail
    refine g1.mono ?_
    rintro e w1 ⟨rfl, rfl⟩
    go_wp2_with fail
    refine g2.mono ?_
    rintro e w1 ⟨rfl, rfl⟩
    go_wp2_with fail
    refine g3.mono ?_
    rintro e w1 ⟨rfl, rfl⟩
    go_wp2_with fail
    refine g4.mono ?_
    rintro e w1 ⟨rfl, rfl⟩
    go_wp2_with fail
    refine g5.mono ?_
    rintro e w1 ⟨rfl, rfl⟩
    go_wp2_with fail
    refine g6.mono ?_
    rintro e w1 ⟨rfl, rfl⟩
    go_wp2_with fail
    refine g7.mono ?_
    rintro e w1 ⟨rfl, rfl⟩
    go_wp2_with fail
    refine g8.mono ?_
    rintro e w1 ⟨rfl, rfl⟩
    go_wp2_with fail
    refine g9.mono ?_
    rintro e w1 ⟨rfl, rfl⟩
    go_wp2_with fail
    refine g10.mono ?_
    rintro e w2 ⟨rfl, hb2⟩
    have HB2 := Lib.hid (HB.out.trans (hb2.mono HB.out.size))
    clear hb2
    go_wp2_with fail
    go_ret
    exact ⟨rfl, HB2.out⟩
  · omega
set_option maxRecDepth 100000 in
set_option maxHeartbeats 2000000 in
theorem none_b (w : World) (n i k : Int) (h2 : 1048576 < n) : Calls Try.prog 7 #[.int .i64 n, .int .i64 i, .int .i64 k] w fun e w' => e = .returned (.bool true) ∧ Below w.heap.size w w' := by
  have HN := new_any w n
  have f1 : decide ((2000 : Int) < n) = true := decide_eq_true (by omega)
  have f2 : decide (n ≤ 1048576) = false := decide_eq_false (by omega)
  have f3 : decide (0 ≤ n) = true := decide_eq_true (by omega)
  go_enter Try.func7, Try.ntmps7
  go_wp2_with fail
  refine HN.mono ?_
  rintro e w1 ⟨hB, ⟨hx, rfl⟩ | ⟨hx, rfl⟩⟩
  · omega
  · have HB := Lib.hid hB
    have g1 := root_nil w1 i
    have g2 := join_nil w1 i k
    have g3 := add_nil w1
    have g4 := same_nil w1 i k
    have g5 := len_nil w1
    have g6 := sets_nil w1
    have g7 := set_nil w1 i
    have g8 := steps_nil w1
    have g9 := copy_nil w1
    have g10 := awake_any w1
    clear hB HN
    go_wp2_with fail
    refine g1.mono ?_
    rintro e w1 ⟨rfl, rfl⟩
    go_wp2_with fail
    refine g2.mono ?_
    rintro e w1 ⟨rfl, rfl⟩
    go_wp2_with fail
    refine g3.mono ?_
    rintro e w1 ⟨rfl, rfl⟩
    go_wp2_with fail
    refine g4.mono ?_
    rintro e w1 ⟨rfl, rfl⟩
    go_wp2_with fail
    refine g5.mono ?_
    rintro e w1 ⟨rfl, rfl⟩
    go_wp2_with fail
    refine g6.mono ?_
    rintro e w1 ⟨rfl, rfl⟩
    go_wp2_with fail
    refine g7.mono ?_
    rintro e w1 ⟨rfl, rfl⟩
    go_wp2_with fail
    refine g8.mono ?_
    rintro e w1 ⟨rfl, rfl⟩
    go_wp2_with fail
    refine g9.mono ?_
    rintro e w1 ⟨rfl, rfl⟩
    go_wp2_with fail
    refine g10.mono ?_
    rintro e w2 ⟨rfl, hb2⟩
    have HB2 := Lib.hid (HB.out.trans (hb2.mono HB.out.size))
    clear hb2
    go_wp2_with fail
    go_ret
    exact ⟨rfl, HB2.out⟩
set_option maxRecDepth 100000 in
set_option maxHeartbeats 2000000 in
theorem none_c (w : World) (n i k : Int) (h1 : n ≤ 2000) (h2 : 0 ≤ n) : Calls Try.prog 7 #[.int .i64 n, .int .i64 i, .int .i64 k] w fun e w' => e = .returned (.bool true) ∧ Below w.heap.size w w' := by
  have HN := new_any w n
  have f1 : decide ((2000 : Int) < n) = false := decide_eq_false (by omega)
  have f2 : decide (n ≤ 1048576) = true := decide_eq_true (by omega)
  have f3 : decide (0 ≤ n) = true := decide_eq_true (by omega)
  go_enter Try.func7, Try.ntmps7
  go_wp2_with fail
  refine HN.mono ?_
  rintro e w1 ⟨hB, ⟨hx, rfl⟩ | ⟨hx, rfl⟩⟩
  · have HB := Lib.hid hB
    have g1 := root_nil w1 i
    have g2 := join_nil w1 i k
    have g3 := add_nil w1
    have g4 := same_nil w1 i k
    have g5 := len_nil w1
    have g6 := sets_nil w1
    have g7 := set_nil w1 i
    have g8 := steps_nil w1
    have g9 := copy_nil w1
    have g10 := awake_any w1
    clear hB HN
    go_wp2_with fail
    refine g1.mono ?_
    rintro e w1 ⟨rfl, rfl⟩
    go_wp2_with fail
    refine g2.mono ?_
    rintro e w1 ⟨rfl, rfl⟩
    go_wp2_with fail
    refine g3.mono ?_
    rintro e w1 ⟨rfl, rfl⟩
    go_wp2_with fail
    refine g4.mono ?_
    rintro e w1 ⟨rfl, rfl⟩
    go_wp2_with fail
    refine g5.mono ?_
    rintro e w1 ⟨rfl, rfl⟩
    go_wp2_with fail
    refine g6.mono ?_
    rintro e w1 ⟨rfl, rfl⟩
    go_wp2_with fail
    refine g7.mono ?_
    rintro e w1 ⟨rfl, rfl⟩
    go_wp2_with fail
    refine g8.mono ?_
    rintro e w1 ⟨rfl, rfl⟩
    go_wp2_with fail
    refine g9.mono ?_
    rintro e w1 ⟨rfl, rfl⟩
    go_wp2_with fail
    refine g10.mono ?_
    rintro e w2 ⟨rfl, hb2⟩
    have HB2 := Lib.hid (HB.out.trans (hb2.mono HB.out.size))
    clear hb2
    go_wp2_with fail
    go_ret
    exact ⟨rfl, HB2.out⟩
  · omega
set_option maxRecDepth 100000 in
set_option maxHeartbeats 2000000 in
theorem none_d (w : World) (n i k : Int) (h2 : n < 0) : Calls Try.prog 7 #[.int .i64 n, .int .i64 i, .int .i64 k] w fun e w' => e = .returned (.bool true) ∧ Below w.heap.size w w' := by
  have HN := new_any w n
  have f1 : decide ((2000 : Int) < n) = false := decide_eq_false (by omega)
  have f3 : decide (0 ≤ n) = false := decide_eq_false (by omega)
  go_enter Try.func7, Try.ntmps7
  go_wp2_with fail
  refine HN.mono ?_
  rintro e w1 ⟨hB, ⟨hx, rfl⟩ | ⟨hx, rfl⟩⟩
  · omega
  · have HB := Lib.hid hB
    have g1 := root_nil w1 i
    have g2 := join_nil w1 i k
    have g3 := add_nil w1
    have g4 := same_nil w1 i k
    have g5 := len_nil w1
    have g6 := sets_nil w1
    have g7 := set_nil w1 i
    have g8 := steps_nil w1
    have g9 := copy_nil w1
    have g10 := awake_any w1
    clear hB HN
    go_wp2_with fail
    refine g1.mono ?_
    rintro e w1 ⟨rfl, rfl⟩
    go_wp2_with fail
    refine g2.mono ?_
    rintro e w1 ⟨rfl, rfl⟩
    go_wp2_with fail
    refine g3.mono ?_
    rintro e w1 ⟨rfl, rfl⟩
    go_wp2_with fail
    refine g4.mono ?_
    rintro e w1 ⟨rfl, rfl⟩
    go_wp2_with fail
    refine g5.mono ?_
    rintro e w1 ⟨rfl, rfl⟩
    go_wp2_with fail
    refine g6.mono ?_
    rintro e w1 ⟨rfl, rfl⟩
    go_wp2_with fail
    refine g7.mono ?_
    rintro e w1 ⟨rfl, rfl⟩
    go_wp2_with fail
    refine g8.mono ?_
    rintro e w1 ⟨rfl, rfl⟩
    go_wp2_with fail
    refine g9.mono ?_
    rintro e w1 ⟨rfl, rfl⟩
    go_wp2_with fail
    refine g10.mono ?_
    rintro e w2 ⟨rfl, hb2⟩
    have HB2 := Lib.hid (HB.out.trans (hb2.mono HB.out.size))
    clear hb2
    go_wp2_with fail
    go_ret
    exact ⟨rfl, HB2.out⟩
theorem none_any (w : World) (n i k : Int) : Calls Try.prog 7 #[.int .i64 n, .int .i64 i, .int .i64 k] w fun e w' => e = .returned (.bool true) ∧ Below w.heap.size w w' := by
  by_cases h1 : 2000 < n
  · by_cases h2 : n ≤ 1048576
    · exact none_a w n i k h1 h2
    · exact none_b w n i k (by omega)
  · by_cases h2 : 0 ≤ n
    · exact none_c w n i k (by omega) h2
    · exact none_d w n i k (by omega)
theorem i64_wf {n : Int} (_h : (Lit.int .i64 n).wf = true) : True := trivial
end Go.Proofs.Ytamieophdnnbnaa.Un
