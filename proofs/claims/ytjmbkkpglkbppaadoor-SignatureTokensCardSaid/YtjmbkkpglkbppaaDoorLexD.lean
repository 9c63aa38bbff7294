/- The contracts of lex.number and token. -/
import Derived.Test.YtjmbkkpglkbppaaDoorLexC
namespace Go.Proofs.YtjmbkkpglkbppaaDoor
open Go.RowKit

/-- The number's answer, by what the tests say. -/
def numR (bad : Bool) (k n : Nat) : Int × Nat × Int := if bad = true then (0, 0, 3) else if 9 < n - k then (0, 0, 2) else (2, n, 0)
theorem numberT_eq (l : List Int) (k n : Nat) (hn : n = endAt digitB l k) : numberT l k = numR ((at_ l k == 48 && decide (k + 1 < n)) || (decide (n < l.length) && (smallB (at_ l n) || at_ l n == 95))) k n := by
  subst hn; rfl

/-- What a call owes that tells the token at a place. -/
def TripPost (r : Int × Nat × Int) (w : World) (e : Ending) (w' : World) : Prop := e = .returned (trip r) ∧ w = w'
theorem num_post {bad : Bool} {k n : Nat} {w : World} {a b c : Int} (h : (bad = true ∧ a = 0 ∧ b = 0 ∧ c = 3) ∨ (bad = false ∧ 9 < n - k ∧ a = 0 ∧ b = 0 ∧ c = 2) ∨ (bad = false ∧ n - k ≤ 9 ∧ a = 2 ∧ b = n ∧ c = 0)) :
    TripPost (numR bad k n) w (.returned (.tuple #[.int .i64 a, .int .i64 b, .int .i64 c])) w := by
  unfold TripPost numR trip
  refine ⟨?_, rfl⟩
  rcases h with ⟨rfl, rfl, rfl, rfl⟩ | ⟨rfl, h, rfl, rfl, rfl⟩ | ⟨rfl, h, rfl, rfl, rfl⟩
  · rfl
  · rw [if_neg (by simp), if_pos h]; rfl
  · rw [if_neg (by simp), if_neg (by omega)]

set_option maxHeartbeats 1000000 in
theorem lnumber_any (s : ByteArray) (k : Nat) (w : World) (hs : s.size ≤ maxLen) (hk : k < s.size) :
    Calls Tryd.prog 47 #[.string s, .int .i64 k] w (TripPost (numberT (bs s) k) w) := by
  have hge := endAt_ge digitB (bs s) k
  have hle := endAt_le digitB (bs s) k (by rw [bs_length]; omega)
  rw [bs_length] at hle
  obtain ⟨n, hn⟩ : ∃ n, n = endAt digitB (bs s) k := ⟨_, rfl⟩
  have hN := numberT_eq (bs s) k n hn
  rw [bs_length, at_bs s k hk] at hN
  rw [← hn] at hge hle
  have Hn := Lib.hid hn
  clear hn
  by_cases hlt : n < s.size
  · rw [at_bs s n hlt] at hN
    have HN := Lib.hid hN
    clear hN
    unfold maxLen at hs
    go_enter Tryd.func47, Tryd.ntmps47
    go_wp2_with fail
    refine (take_digit s k _ hs (by omega)).mono ?_
    rintro e w' ⟨rfl, rfl⟩
    rw [← Hn.out]
    go_wp2_with (go_at_call 44; refine (isSmall_any _ _).mono ?_; rintro e w' ⟨rfl, rfl⟩)
    all_goals
      go_ret3
      rw [HN.out]
      refine num_post ?_
      clear HN Hn
      by_cases g1 : k + 1 < n <;> by_cases g2 : 9 < n - k <;> first | (exfalso; omega) | (simp_all; done) | (simp_all; omega)
  · have HN := Lib.hid hN
    clear hN
    unfold maxLen at hs
    go_enter Tryd.func47, Tryd.ntmps47
    go_wp2_with fail
    refine (take_digit s k _ hs (by omega)).mono ?_
    rintro e w' ⟨rfl, rfl⟩
    rw [← Hn.out]
    go_wp2_with (go_at_call 44; refine (isSmall_any _ _).mono ?_; rintro e w' ⟨rfl, rfl⟩)
    all_goals
      go_ret3
      rw [HN.out]
      refine num_post ?_
      clear HN Hn
      by_cases g1 : k + 1 < n <;> by_cases g2 : 9 < n - k <;> first | (exfalso; omega) | (simp_all; done) | (simp_all; omega)
set_option maxHeartbeats 1000000 in
theorem token_any (s : ByteArray) (k : Nat) (w : World) (hs : s.size ≤ maxLen) (hk : k < s.size) :
    Calls Tryd.prog 31 #[.string s, .int .i64 k] w (TripPost (tokenT (bs s) k) w) := by
  have hb := at_bs s k hk
  unfold tokenT
  by_cases h1 : smallB (at_ (bs s) k) = true
  · rw [if_pos h1]
    rw [hb] at h1
    clear hb
    have hsl := hs
    unfold maxLen at hs
    go_enter Tryd.func31, Tryd.ntmps31
    go_wp2_with (first | (go_at_call 44; refine (isSmall_any _ _).mono ?_; rintro e w' ⟨rfl, rfl⟩) | (go_at_call 45; refine (word_any s k _ hsl hk).mono ?_; rintro e w' ⟨rfl, rfl⟩; unfold trip))
    go_ret3
    exact ⟨rfl, rfl⟩
  · rw [if_neg h1]
    have h1' : smallB (s[k].toNat : Int) = false := by rw [hb] at h1; simpa using h1
    clear h1
    by_cases h2 : digitB (at_ (bs s) k) = true
    · rw [if_pos h2]
      rw [hb] at h2
      clear hb
      have hsl := hs
      unfold maxLen at hs
      go_enter Tryd.func31, Tryd.ntmps31
      go_wp2_with (first | (go_at_call 44; refine (isSmall_any _ _).mono ?_; rintro e w' ⟨rfl, rfl⟩) | (go_at_call 46; refine (isDigit_any _ _).mono ?_; rintro e w' ⟨rfl, rfl⟩) | (go_at_call 47; refine (lnumber_any s k _ hsl hk).mono ?_; rintro e w' ⟨rfl, rfl⟩; unfold trip))
      go_ret3
      exact ⟨rfl, rfl⟩
    · rw [if_neg h2]
      have h2' : digitB (s[k].toNat : Int) = false := by rw [hb] at h2; simpa using h2
      clear h2 hb
      have hsl := hs
      unfold maxLen at hs
      go_enter Tryd.func31, Tryd.ntmps31
      go_wp2_with (first | (go_at_call 44; refine (isSmall_any _ _).mono ?_; rintro e w' ⟨rfl, rfl⟩) | (go_at_call 46; refine (isDigit_any _ _).mono ?_; rintro e w' ⟨rfl, rfl⟩) | (go_at_call 48; refine (sign_any s k _ hsl hk).mono ?_; rintro e w' ⟨rfl, rfl⟩; unfold trip))
      go_ret3
      exact ⟨rfl, rfl⟩
end Go.Proofs.YtjmbkkpglkbppaaDoor
