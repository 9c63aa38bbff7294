/- The contracts of the small functions of package lex: each returns what the plain function of the same name gives, and leaves the world as it was. -/
import Derived.Test.YtjmbkkpglkbppaaDoorRows
import Derived.Test.YtjmbkkpglkbppaaDoorLexP
import Derived.WalkKit
import Derived.WalkSpells
import Derived.WalkLawsBesides
import Derived.Lib.Hide
namespace Go.Proofs.YtjmbkkpglkbppaaDoor
open Go.RowKit

theorem lret_bool {a b : Bool} (h : a = b) : Ending.returned (.bool a) = .returned (.bool b) := by rw [h]
theorem lret_int {k : IntKind} {a b : Int} (h : a = b) : Ending.returned (.int k a) = .returned (.int k b) := by rw [h]

set_option maxHeartbeats 400000 in
theorem isSmall_any (c : Int) (w : World) :
    Calls Tryd.prog 44 #[.int .u8 c] w fun e w' => e = .returned (.bool (smallB c)) ∧ w = w' := by
  go_enter Tryd.func44, Tryd.ntmps44
  go_wp2
  all_goals
    go_ret
    exact ⟨lret_bool (by simp [smallB, *] <;> omega), rfl⟩
set_option maxHeartbeats 400000 in
theorem isDigit_any (c : Int) (w : World) :
    Calls Tryd.prog 46 #[.int .u8 c] w fun e w' => e = .returned (.bool (digitB c)) ∧ w = w' := by
  go_enter Tryd.func46, Tryd.ntmps46
  go_wp2
  all_goals
    go_ret
    exact ⟨lret_bool (by simp [digitB, *] <;> omega), rfl⟩
set_option maxHeartbeats 400000 in
theorem isBlank_any (c : Int) (w : World) :
    Calls Tryd.prog 43 #[.int .u8 c] w fun e w' => e = .returned (.bool (blankB c)) ∧ w = w' := by
  go_enter Tryd.func43, Tryd.ntmps43
  go_wp2
  all_goals
    go_ret
    exact ⟨lret_bool (by simp [blankB, *]), rfl⟩
set_option maxHeartbeats 400000 in
theorem inner_any (c : Int) (w : World) :
    Calls Tryd.prog 64 #[.int .u8 c] w fun e w' => e = .returned (.bool (innerB c)) ∧ w = w' := by
  by_cases h1 : smallB c = true <;> by_cases h2 : digitB c = true
  all_goals
    go_enter Tryd.func64, Tryd.ntmps64
    go_wp2_with (first | (go_at_call 44; refine (isSmall_any _ _).mono ?_; rintro e w' ⟨rfl, rfl⟩) | (go_at_call 46; refine (isDigit_any _ _).mono ?_; rintro e w' ⟨rfl, rfl⟩))
  all_goals
    go_ret
    exact ⟨lret_bool (by simp [innerB, *]), rfl⟩
set_option maxHeartbeats 400000 in
theorem take_inner (s : ByteArray) (i : Nat) (w : World) (hs : s.size ≤ maxLen) (hi : i ≤ s.size) :
    Calls Tryd.prog 41 #[.string s, .int .i64 i, .func (.func 64) #[] #[]] w fun e w' => e = .returned (.int .i64 (endAt innerB (bs s) i)) ∧ w = w' := by
  unfold maxLen at hs
  go_enter Tryd.func41, Tryd.ntmps41
  go_wp2
  go_loop [7] (fun t => ∃ k : Nat, k ≤ s.size ∧ t = .int .i64 k ∧ endAt innerB (bs s) i = endAt innerB (bs s) k) (fun t => s.size - (intOf t).toNat)
  case atStart => exact ⟨i, hi, rfl, rfl⟩
  case round =>
    obtain ⟨k, hk, rfl, he⟩ := hrel
    have He := Lib.hid he
    clear he
    by_cases hlt : k < s.size
    · have hb := bs_get s k hlt
      by_cases hp : innerB (s[k].toNat : Int) = true
      · have HE : Hid (endAt innerB (bs s) k = endAt innerB (bs s) (k + 1)) := endAt_go (by rw [bs_length]; exact hlt) (by rw [hb]; exact hp)
        clear hb
        go_wp2_with (go_at_call 64; refine (inner_any _ _).mono ?_; rintro e w' ⟨rfl, rfl⟩)
        go_round
        case rel => exact ⟨k + 1, by omega, by go_num, He.out.trans HE.out⟩
        case measure => simp [intOf]; omega
      · have hp' : innerB (s[k].toNat : Int) = false := by simpa using hp
        clear hp
        have HE : Hid (endAt innerB (bs s) k = k) := endAt_stop (by rw [bs_length]; exact hlt) (by rw [hb]; exact hp')
        clear hb
        go_wp2_with (go_at_call 64; refine (inner_any _ _).mono ?_; rintro e w' ⟨rfl, rfl⟩)
        go_ret
        exact ⟨lret_int (by rw [He.out, HE.out]), rfl⟩
    · have HE : Hid (endAt innerB (bs s) k = k) := endAt_end (by rw [bs_length]; omega)
      go_wp2_with fail
      go_ret
      exact ⟨lret_int (by rw [He.out, HE.out]), rfl⟩
set_option maxHeartbeats 400000 in
theorem take_digit (s : ByteArray) (i : Nat) (w : World) (hs : s.size ≤ maxLen) (hi : i ≤ s.size) :
    Calls Tryd.prog 41 #[.string s, .int .i64 i, .func (.func 46) #[] #[]] w fun e w' => e = .returned (.int .i64 (endAt digitB (bs s) i)) ∧ w = w' := by
  unfold maxLen at hs
  go_enter Tryd.func41, Tryd.ntmps41
  go_wp2
  go_loop [7] (fun t => ∃ k : Nat, k ≤ s.size ∧ t = .int .i64 k ∧ endAt digitB (bs s) i = endAt digitB (bs s) k) (fun t => s.size - (intOf t).toNat)
  case atStart => exact ⟨i, hi, rfl, rfl⟩
  case round =>
    obtain ⟨k, hk, rfl, he⟩ := hrel
    have He := Lib.hid he
    clear he
    by_cases hlt : k < s.size
    · have hb := bs_get s k hlt
      by_cases hp : digitB (s[k].toNat : Int) = true
      · have HE : Hid (endAt digitB (bs s) k = endAt digitB (bs s) (k + 1)) := endAt_go (by rw [bs_length]; exact hlt) (by rw [hb]; exact hp)
        clear hb
        go_wp2_with (go_at_call 46; refine (isDigit_any _ _).mono ?_; rintro e w' ⟨rfl, rfl⟩)
        go_round
        case rel => exact ⟨k + 1, by omega, by go_num, He.out.trans HE.out⟩
        case measure => simp [intOf]; omega
      · have hp' : digitB (s[k].toNat : Int) = false := by simpa using hp
        clear hp
        have HE : Hid (endAt digitB (bs s) k = k) := endAt_stop (by rw [bs_length]; exact hlt) (by rw [hb]; exact hp')
        clear hb
        go_wp2_with (go_at_call 46; refine (isDigit_any _ _).mono ?_; rintro e w' ⟨rfl, rfl⟩)
        go_ret
        exact ⟨lret_int (by rw [He.out, HE.out]), rfl⟩
    · have HE : Hid (endAt digitB (bs s) k = k) := endAt_end (by rw [bs_length]; omega)
      go_wp2_with fail
      go_ret
      exact ⟨lret_int (by rw [He.out, HE.out]), rfl⟩
end Go.Proofs.YtjmbkkpglkbppaaDoor
