/- The contracts of lex.Keyword, word, number, sign and token: each returns what the plain function of the like name gives, and leaves the world as it was. -/
import Derived.Test.YtjmbkkpglkbppaaDoorLexB
namespace Go.Proofs.YtjmbkkpglkbppaaDoor
open Go.RowKit

theorem ret_trip {a a' b b' c c' : Int} (h1 : a = a') (h2 : b = b') (h3 : c = c') : Ending.returned (.tuple #[.int .i64 a, .int .i64 b, .int .i64 c]) = .returned (.tuple #[.int .i64 a', .int .i64 b', .int .i64 c']) := by rw [h1, h2, h3]
def trip (t : Int × Nat × Int) : Value := .tuple #[.int .i64 t.1, .int .i64 t.2.1, .int .i64 t.2.2]

set_option maxHeartbeats 400000 in
theorem letters_any (s : ByteArray) (i : Nat) (w : World) (hs : s.size ≤ maxLen) (hi : i ≤ s.size) :
    Calls Tryd.prog 59 #[.string s, .int .i64 i] w fun e w' => e = .returned (.int .i64 (endAt innerB (bs s) i)) ∧ w = w' := by
  go_enter Tryd.func59, Tryd.ntmps59
  go_wp2_with (go_at_call 41; refine (take_inner s i _ hs hi).mono ?_; rintro e w' ⟨rfl, rfl⟩)
  go_ret
  exact ⟨rfl, rfl⟩
def kwS (l : List UInt8) : Bool := l == [102, 117, 110] || l == [108, 101, 116] || l == [114, 101, 99] || l == [105, 110] || l == [105, 102] || l == [116, 104, 101, 110] || l == [101, 108, 115, 101] || l == [116, 114, 117, 101] || l == [102, 97, 108, 115, 101] || l == [105, 110, 116] || l == [98, 111, 111, 108]
theorem kwS_eq (s : ByteArray) : kwS s.toList = kwB (bs s) := by
  unfold kwS kwB
  simp only [bs_beq, List.map_cons, List.map_nil]
  rfl
set_option maxHeartbeats 400000 in
theorem keyword_any (s : ByteArray) (w : World) :
    Calls Tryd.prog 60 #[.string s] w fun e w' => e = .returned (.bool (kwB (bs s))) ∧ w = w' := by
  rw [← kwS_eq]
  go_enter Tryd.func60, Tryd.ntmps60
  go_wp2
  all_goals
    go_ret
    exact ⟨lret_bool (by simp_all [kwS]), rfl⟩
set_option maxHeartbeats 400000 in
theorem sign_any (s : ByteArray) (k : Nat) (w : World) (hs : s.size ≤ maxLen) (hk : k < s.size) :
    Calls Tryd.prog 48 #[.string s, .int .i64 k] w fun e w' => e = .returned (trip (signT (bs s) k)) ∧ w = w' := by
  unfold maxLen at hs
  have ha := Lib.hid (at_bs s k hk)
  have hr : Hid (k + 2 ≤ s.size → (((s.extract k s.size).extract 0 2).toList == [45, 62]) = (at_ (bs s) k == 45 && at_ (bs s) (k + 1) == 62)) := fun h => arrow_bs s k h
  have hz : Hid (s.size - k < 2 → at_ (bs s) (k + 1) = 0) := by
    intro h
    unfold at_
    rw [List.getD_eq_getElem?_getD, List.getElem?_eq_none (by rw [bs_length]; omega)]
    rfl
  go_enter Tryd.func48, Tryd.ntmps48
  go_wp2
  all_goals
    go_ret3
    refine ⟨ret_trip (a' := (signT (bs s) k).1) (b' := (signT (bs s) k).2.1) (c' := (signT (bs s) k).2.2) ?_ ?_ ?_, rfl⟩
  all_goals
    have ha' := ha.out
    have hr' := hr.out
    have hz' := hz.out
    clear ha hr hz
    unfold signT signB
    first
      | (rw [ha']; simp_all; done)
      | (have h2 : k + 2 ≤ s.size := by omega
         have hr2 := hr' h2
         rw [ha'] at hr2 ⊢
         simp_all; done)
      | (have h2 : s.size - k < 2 := by omega
         rw [ha', hz' h2]
         simp_all; done)
set_option maxHeartbeats 400000 in
theorem word_any (s : ByteArray) (k : Nat) (w : World) (hs : s.size ≤ maxLen) (hk : k < s.size) :
    Calls Tryd.prog 45 #[.string s, .int .i64 k] w fun e w' => e = .returned (trip (wordT (bs s) k)) ∧ w = w' := by
  have hge := endAt_ge innerB (bs s) k
  have hle := endAt_le innerB (bs s) k (by rw [bs_length]; omega)
  rw [bs_length] at hle
  obtain ⟨n, hn⟩ : ∃ n, n = endAt innerB (bs s) k := ⟨_, rfl⟩
  have hkw : kwB (bs (s.extract k n)) = kwB (sub (bs s) k n) := by rw [bs_extract]
  have hw : wordT (bs s) k = (if kwB (bs (s.extract k n)) = true then (3, n, 0) else if 20 < n - k then (0, 0, 2) else (1, n, 0)) := by
    rw [hkw, hn]; rfl
  rw [hw]
  clear hw hkw
  rw [← hn] at hge hle
  have Hn := Lib.hid hn
  clear hn
  by_cases h1 : kwB (bs (s.extract k n)) = true
  · rw [if_pos h1]
    unfold maxLen at hs
    go_enter Tryd.func45, Tryd.ntmps45
    go_wp2_with fail
    refine (letters_any s k _ hs (by omega)).mono ?_
    rintro e w' ⟨rfl, rfl⟩
    rw [← Hn.out]
    go_wp2_with (go_at_call 60; refine (keyword_any _ _).mono ?_; rintro e w' ⟨rfl, rfl⟩)
    go_ret3
    exact ⟨rfl, rfl⟩
  · rw [if_neg h1]
    have h1' : kwB (bs (s.extract k n)) = false := by simpa using h1
    clear h1
    by_cases h2 : 20 < n - k
    · rw [if_pos h2]
      have h2' : (20 : Int) < (n : Int) - (k : Int) := by omega
      unfold maxLen at hs
      go_enter Tryd.func45, Tryd.ntmps45
      go_wp2_with fail
      refine (letters_any s k _ hs (by omega)).mono ?_
      rintro e w' ⟨rfl, rfl⟩
      rw [← Hn.out]
      go_wp2_with (go_at_call 60; refine (keyword_any _ _).mono ?_; rintro e w' ⟨rfl, rfl⟩)
      go_ret3
      exact ⟨rfl, rfl⟩
    · rw [if_neg h2]
      have h2' : ¬ (20 : Int) < (n : Int) - (k : Int) := by omega
      unfold maxLen at hs
      go_enter Tryd.func45, Tryd.ntmps45
      go_wp2_with fail
      refine (letters_any s k _ hs (by omega)).mono ?_
      rintro e w' ⟨rfl, rfl⟩
      rw [← Hn.out]
      go_wp2_with (go_at_call 60; refine (keyword_any _ _).mono ?_; rintro e w' ⟨rfl, rfl⟩)
      go_ret3
      exact ⟨rfl, rfl⟩
end Go.Proofs.YtjmbkkpglkbppaaDoor
