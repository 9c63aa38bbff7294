/- The contracts of the small functions of the document's answer for package lex: Letter, Digit, Inner, Keyword. -/
import Derived.Test.YtlifkfihpmkffaaLexE
namespace Go.Proofs.Ytlifkfihpmkffaa
open Go.RowKit

set_option maxHeartbeats 400000 in
theorem rLetter_any (c : Int) (w : World) :
    Calls Try.prog 51 #[.int .u8 c] w fun e w' => e = .returned (.bool (smallB c)) ∧ w = w' := by
  go_enter Try.func51, Try.ntmps51
  go_wp2
  all_goals
    go_ret
    exact ⟨ret_bool (by simp [smallB, *] <;> omega), rfl⟩
set_option maxHeartbeats 400000 in
theorem rDigit_any (c : Int) (w : World) :
    Calls Try.prog 53 #[.int .u8 c] w fun e w' => e = .returned (.bool (digitB c)) ∧ w = w' := by
  go_enter Try.func53, Try.ntmps53
  go_wp2
  all_goals
    go_ret
    exact ⟨ret_bool (by simp [digitB, *] <;> omega), rfl⟩
set_option maxHeartbeats 400000 in
theorem rInner_any (c : Int) (w : World) :
    Calls Try.prog 52 #[.int .u8 c] w fun e w' => e = .returned (.bool (innerB c)) ∧ w = w' := by
  by_cases h1 : smallB c = true <;> by_cases h2 : digitB c = true
  all_goals
    go_enter Try.func52, Try.ntmps52
    go_wp2_with (first | (go_at_call 51; refine (rLetter_any _ _).mono ?_; rintro e w' ⟨rfl, rfl⟩) | (go_at_call 53; refine (rDigit_any _ _).mono ?_; rintro e w' ⟨rfl, rfl⟩))
  all_goals
    go_ret
    exact ⟨ret_bool (by simp [innerB, *]), rfl⟩
theorem kwS_eq' (s : ByteArray) : kwB (bs s) = ([102, 117, 110] == s.toList || [108, 101, 116] == s.toList || [114, 101, 99] == s.toList || [105, 110] == s.toList || [105, 102] == s.toList || [116, 104, 101, 110] == s.toList || [101, 108, 115, 101] == s.toList || [116, 114, 117, 101] == s.toList || [102, 97, 108, 115, 101] == s.toList || [105, 110, 116] == s.toList || [98, 111, 111, 108] == s.toList) := by
  rw [← kwS_eq]
  unfold kwS
  have hc : ∀ a b : List UInt8, (a == b) = (b == a) := fun a b => by rw [Bool.eq_iff_iff, beq_iff_eq, beq_iff_eq]; exact eq_comm
  simp only [hc s.toList]
set_option maxHeartbeats 1000000 in
theorem rKeyword_any (s : ByteArray) (w : World) :
    Calls Try.prog 33 #[.string s] w fun e w' => e = .returned (.bool (kwB (bs s))) ∧ Below w.heap.size w w' := by
  go_enter Try.func33, Try.ntmps33
  go_wp2_with fail
  refine wp_loop_rounds 12 ?_
  iterate 11
    rw [rounds_succ]
    go_wp2_with fail
    · go_ret
      exact ⟨ret_bool (by rw [kwS_eq']; simp [*]), (Below.refl _ _).alloc (Nat.le_refl _) _⟩
  rw [rounds_succ]
  go_wp2_with fail
  go_ret
  exact ⟨ret_bool (by rw [kwS_eq']; simp [*]), (Below.refl _ _).alloc (Nat.le_refl _) _⟩
end Go.Proofs.Ytlifkfihpmkffaa
