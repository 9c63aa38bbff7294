/- Texts of one proof, one behind the other. -/
import Derived.Below
import Derived.Lib.Strings
import Derived.Test.YtfoangiphbmipaaRows
import Derived.WalkKit
import Derived.WalkSpells
import Derived.WalkLawsBesides
import Derived.Lib.Hide
import Derived.Test.YtfoangiphbmipaaMgTermOrder2
import Derived.Deep.RegionWith
/- Plain facts on texts as lists of numbers; the plain functions that package lex computes. Nothing here speaks of the program. -/
namespace Go.Proofs.Ytfoangiphbmipaa
open Go.RowKit

def smallB (c : Int) : Bool := decide (97 ≤ c) && decide (c ≤ 122)
def digitB (c : Int) : Bool := decide (48 ≤ c) && decide (c ≤ 57)
def blankB (c : Int) : Bool := c == 32 || c == 9 || c == 10 || c == 13
def innerB (c : Int) : Bool := smallB c || digitB c || c == 95

/-- The bytes of a text, as numbers. -/
def bs (s : ByteArray) : List Int := s.data.toList.map fun c => (c.toNat : Int)
/-- How far from place k on the bytes meet p. -/
def endAt (p : Int → Bool) (l : List Int) (k : Nat) : Nat := k + ((l.drop k).takeWhile p).length

theorem bs_length (s : ByteArray) : (bs s).length = s.size := by unfold bs; rw [List.length_map, Array.length_toList]; rfl
theorem bs_get (s : ByteArray) (k : Nat) (h : k < s.size) : (bs s)[k]'(by rw [bs_length]; exact h) = (s[k].toNat : Int) := by
  unfold bs; rw [List.getElem_map, Array.getElem_toList]; rfl
theorem endAt_go {p : Int → Bool} {l : List Int} {k : Nat} (h : k < l.length) (hp : p l[k] = true) : endAt p l k = endAt p l (k + 1) := by
  unfold endAt
  rw [List.drop_eq_getElem_cons h, List.takeWhile_cons, if_pos hp]
  simp; omega
theorem endAt_stop {p : Int → Bool} {l : List Int} {k : Nat} (h : k < l.length) (hp : p l[k] = false) : endAt p l k = k := by
  unfold endAt
  rw [List.drop_eq_getElem_cons h, List.takeWhile_cons, if_neg (by simp [hp])]
  simp
theorem endAt_end {p : Int → Bool} {l : List Int} {k : Nat} (h : l.length ≤ k) : endAt p l k = k := by
  unfold endAt
  rw [List.drop_eq_nil_of_le h]; simp
theorem endAt_le (p : Int → Bool) (l : List Int) (k : Nat) (h : k ≤ l.length) : endAt p l k ≤ l.length := by
  unfold endAt
  have := (List.takeWhile_prefix (l := l.drop k) p).length_le
  simp at this; omega
theorem endAt_ge (p : Int → Bool) (l : List Int) (k : Nat) : k ≤ endAt p l k := by unfold endAt; omega
theorem endAt_gt {p : Int → Bool} {l : List Int} {k : Nat} (h : k < l.length) (hp : p l[k] = true) : k < endAt p l k := by
  rw [endAt_go h hp]; have := endAt_ge p l (k + 1); omega

def remB (r : Bool) (c : Int) : Bool := c == 35 || (r && c != 10)
def blankLen : Bool → List Int → Nat
  | _, [] => 0
  | r, c :: l => if (remB r c || blankB c) = true then blankLen (remB r c) l + 1 else 0
def blankEnd (r : Bool) (l : List Int) (k : Nat) : Nat := k + blankLen r (l.drop k)

theorem blankEnd_go {r : Bool} {l : List Int} {k : Nat} (h : k < l.length) (hp : (remB r l[k] || blankB l[k]) = true) : blankEnd r l k = blankEnd (remB r l[k]) l (k + 1) := by
  unfold blankEnd
  rw [List.drop_eq_getElem_cons h, blankLen, if_pos hp]
  omega
theorem blankEnd_stop {r : Bool} {l : List Int} {k : Nat} (h : k < l.length) (hp : (remB r l[k] || blankB l[k]) = false) : blankEnd r l k = k := by
  unfold blankEnd
  rw [List.drop_eq_getElem_cons h, blankLen, if_neg (by simp [hp])]
  omega
theorem blankEnd_end {r : Bool} {l : List Int} {k : Nat} (h : l.length ≤ k) : blankEnd r l k = k := by
  unfold blankEnd
  rw [List.drop_eq_nil_of_le h, blankLen]; omega
theorem blankLen_le (l : List Int) : ∀ r, blankLen r l ≤ l.length := by
  induction l with
  | nil => intro r; simp [blankLen]
  | cons c l ih =>
    intro r
    rw [blankLen]
    split
    · have := ih (remB r c); simp; omega
    · simp
theorem blankEnd_le (r : Bool) (l : List Int) (k : Nat) (h : k ≤ l.length) : blankEnd r l k ≤ l.length := by
  unfold blankEnd
  have := blankLen_le (l.drop k) r
  simp at this; omega
theorem blankEnd_ge (r : Bool) (l : List Int) (k : Nat) : k ≤ blankEnd r l k := by unfold blankEnd; omega

def sub (l : List Int) (a b : Nat) : List Int := (l.drop a).take (b - a)
def kwB (l : List Int) : Bool := l == [102, 117, 110] || l == [108, 101, 116] || l == [114, 101, 99] || l == [105, 110] || l == [105, 102] || l == [116, 104, 101, 110] || l == [101, 108, 115, 101] || l == [116, 114, 117, 101] || l == [102, 97, 108, 115, 101] || l == [105, 110, 116] || l == [98, 111, 111, 108]
def signB (c : Int) : Bool := c == 40 || c == 41 || c == 44 || c == 58 || c == 61 || c == 42
/-- The byte at a place; behind the end: 0, which is no byte of any token. -/
def at_ (l : List Int) (k : Nat) : Int := l.getD k 0

/-- The kind of the token that begins at a place, the place behind it, and an error's number. -/
def wordT (l : List Int) (k : Nat) : Int × Nat × Int :=
  if kwB (sub l k (endAt innerB l k)) = true then (3, endAt innerB l k, 0)
  else if 20 < endAt innerB l k - k then (0, 0, 2) else (1, endAt innerB l k, 0)
def numBad (l : List Int) (k : Nat) : Bool :=
  (at_ l k == 48 && decide (k + 1 < endAt digitB l k)) || (decide (endAt digitB l k < l.length) && (smallB (at_ l (endAt digitB l k)) || at_ l (endAt digitB l k) == 95))
def numberT (l : List Int) (k : Nat) : Int × Nat × Int :=
  if numBad l k = true then (0, 0, 3)
  else if 9 < endAt digitB l k - k then (0, 0, 2) else (2, endAt digitB l k, 0)
def signT (l : List Int) (k : Nat) : Int × Nat × Int :=
  if signB (at_ l k) = true then (4, k + 1, 0)
  else if (at_ l k == 45 && at_ l (k + 1) == 62) = true then (4, k + 2, 0) else (0, 0, 3)
def tokenT (l : List Int) (k : Nat) : Int × Nat × Int :=
  if smallB (at_ l k) = true then wordT l k else if digitB (at_ l k) = true then numberT l k else signT l k

theorem toList_data (s : ByteArray) : s.toList = s.data.toList := ByteArray.toList_eq s
theorem u8_inj (x y : UInt8) (h : (x.toNat : Int) = (y.toNat : Int)) : x = y := UInt8.toNat_inj.1 (by omega)
theorem bs_inj {s t : ByteArray} (h : bs s = bs t) : s = t := by
  have hm : s.data.toList = t.data.toList := by
    unfold bs at h
    exact (List.map_inj_right u8_inj).1 h
  cases s; cases t
  simp at hm
  rw [hm]
theorem bs_beq (s : ByteArray) (L : List UInt8) : (s.toList == L) = (bs s == L.map fun c => (c.toNat : Int)) := by
  rw [Bool.eq_iff_iff, beq_iff_eq, beq_iff_eq, toList_data]
  unfold bs
  exact (List.map_inj_right u8_inj).symm
theorem bs_extract (s : ByteArray) (a b : Nat) : bs (s.extract a b) = sub (bs s) a b := by
  unfold bs sub
  rw [ByteArray.data_extract, Array.toList_extract]
  simp [List.extract_eq_take_drop, List.map_drop, List.map_take]
theorem at_get (l : List Int) (k : Nat) (h : k < l.length) : at_ l k = l[k] := by simp [at_, h]
theorem at_bs (s : ByteArray) (k : Nat) (h : k < s.size) : at_ (bs s) k = (s[k].toNat : Int) := by
  rw [at_get _ _ (by rw [bs_length]; exact h)]; exact bs_get s k h
theorem arrow_bs (s : ByteArray) (k : Nat) (h : k + 2 ≤ s.size) : (((s.extract k s.size).extract 0 2).toList == [45, 62]) = (at_ (bs s) k == 45 && at_ (bs s) (k + 1) == 62) := by
  rw [bs_beq, bs_extract, bs_extract]
  have hl := bs_length s
  generalize bs s = l at *
  rw [at_get _ _ (by omega), at_get _ _ (by omega)]
  obtain ⟨x, y, r, hx, hy, hd⟩ : ∃ x y r, l[k] = x ∧ l[k + 1] = y ∧ l.drop k = x :: y :: r := ⟨_, _, _, rfl, rfl, by
    rw [List.drop_eq_getElem_cons (by omega : k < l.length), List.drop_eq_getElem_cons (by omega : k + 1 < l.length)]⟩
  unfold sub
  obtain ⟨n, hn⟩ : ∃ n, s.size - k = n + 2 := ⟨s.size - k - 2, by omega⟩
  rw [hd, hn, hx, hy, Bool.eq_iff_iff]
  simp
theorem at_none (l : List Int) (k : Nat) (h : l.length ≤ k) : at_ l k = 0 := by
  unfold at_
  rw [List.getD_eq_getElem?_getD, List.getElem?_eq_none h]
  rfl
/-- A token without an error has bytes, and lies in the text. -/
theorem tokenT_ok (l : List Int) (k : Nat) (hk : k < l.length) (he : (tokenT l k).2.2 = 0) : k < (tokenT l k).2.1 ∧ (tokenT l k).2.1 ≤ l.length := by
  unfold tokenT at *
  by_cases h1 : smallB (at_ l k) = true
  · rw [if_pos h1] at *
    rw [at_get _ _ hk] at h1
    have hi : innerB l[k] = true := by simp [innerB, h1]
    have := endAt_gt hk hi
    have := endAt_le innerB l k (by omega)
    unfold wordT at *
    by_cases h2 : kwB (sub l k (endAt innerB l k)) = true
    · rw [if_pos h2] at *; exact ⟨by assumption, by assumption⟩
    · rw [if_neg h2] at *
      by_cases h3 : 20 < endAt innerB l k - k
      · rw [if_pos h3] at he; simp at he
      · rw [if_neg h3]; exact ⟨by assumption, by assumption⟩
  · rw [if_neg h1] at *
    by_cases h2 : digitB (at_ l k) = true
    · rw [if_pos h2] at *
      rw [at_get _ _ hk] at h2
      have := endAt_gt hk h2
      have := endAt_le digitB l k (by omega)
      unfold numberT at *
      by_cases h3 : numBad l k = true
      · rw [if_pos h3] at he; simp at he
      · rw [if_neg h3] at *
        by_cases h4 : 9 < endAt digitB l k - k
        · rw [if_pos h4] at he; simp at he
        · rw [if_neg h4]; exact ⟨by assumption, by assumption⟩
    · rw [if_neg h2] at *
      unfold signT at *
      by_cases h3 : signB (at_ l k) = true
      · rw [if_pos h3]; exact ⟨by simp, by simp; omega⟩
      · rw [if_neg h3] at *
        by_cases h4 : (at_ l k == 45 && at_ l (k + 1) == 62) = true
        · rw [if_pos h4]
          have h5 : at_ l (k + 1) = 62 := by simp at h4; exact h4.2
          have : k + 1 < l.length := by
            rcases Nat.lt_or_ge (k + 1) l.length with h | h
            · exact h
            · rw [at_none _ _ h] at h5; omega
          exact ⟨by simp, by simp; omega⟩
        · rw [if_neg h4] at he; simp at he

/-- All tokens from a place on, behind those that there are; or where a wrong one is, and its error. -/
def wordsA (l : List Int) : Nat → Nat → List (Int × Nat × Nat) → Except (Nat × Int) (List (Int × Nat × Nat))
  | 0, _, acc => .ok acc
  | f + 1, k, acc =>
    if k < l.length then
      if (tokenT l k).2.2 = 0 then wordsA l f (blankEnd false l (tokenT l k).2.1) (acc ++ [((tokenT l k).1, k, (tokenT l k).2.1)])
      else .error (k, (tokenT l k).2.2)
    else .ok acc
def wordsE (l : List Int) : Except (Nat × Int) (List (Int × Nat × Nat)) := wordsA l (l.length + 1) (blankEnd false l 0) []
theorem wordsA_go {l : List Int} {f k : Nat} {acc : List (Int × Nat × Nat)} {kd : Int} {to : Nat} (hf : 0 < f) (hk : k < l.length) (hT : tokenT l k = (kd, to, 0)) :
    wordsA l f k acc = wordsA l (f - 1) (blankEnd false l to) (acc ++ [(kd, k, to)]) := by
  obtain ⟨g, rfl⟩ : ∃ g, f = g + 1 := ⟨f - 1, by omega⟩
  rw [wordsA, if_pos hk, hT, if_pos rfl]; rfl
theorem wordsA_bad {l : List Int} {f k : Nat} {acc : List (Int × Nat × Nat)} {kd er : Int} {to : Nat} (hf : 0 < f) (hk : k < l.length) (hT : tokenT l k = (kd, to, er)) (he : er ≠ 0) :
    wordsA l f k acc = .error (k, er) := by
  obtain ⟨g, rfl⟩ : ∃ g, f = g + 1 := ⟨f - 1, by omega⟩
  rw [wordsA, if_pos hk, hT, if_neg he]
theorem wordsA_end {l : List Int} {f k : Nat} {acc : List (Int × Nat × Nat)} (hk : l.length ≤ k) : wordsA l f k acc = .ok acc := by
  cases f with
  | zero => rfl
  | succ g => rw [wordsA, if_neg (by omega)]
theorem blankEnd_blank {l : List Int} {k : Nat} (h : k < l.length) (hp : blankB l[k] = true) : blankEnd false l k = blankEnd false l (k + 1) := by
  rw [blankEnd_go h (by rw [hp]; simp)]
  have : remB false l[k] = false := by
    unfold blankB at hp
    unfold remB
    simp at hp ⊢
    omega
  rw [this]
theorem blankEnd_hash {l : List Int} {k : Nat} (h : k < l.length) (hp : l[k] = 35) : blankEnd false l k = blankEnd true l k := by
  rw [blankEnd_go h (by simp [remB, hp]), blankEnd_go (r := true) h (by simp [remB, hp])]
  rw [hp]; rfl
theorem blankEnd_rem {l : List Int} {k : Nat} (h : k < l.length) (hp : l[k] ≠ 10) : blankEnd true l k = blankEnd true l (k + 1) := by
  have : remB true l[k] = true := by simp [remB]; omega
  rw [blankEnd_go h (by rw [this]; simp), this]
theorem blankEnd_feed {l : List Int} {k : Nat} (h : k < l.length) (hp : l[k] = 10) : blankEnd true l k = blankEnd false l k := by
  rw [blankEnd_go h (by simp [remB, blankB, hp]), blankEnd_go (r := false) h (by simp [remB, blankB, hp])]
  rw [hp]; rfl
theorem blankEnd_token {l : List Int} {k : Nat} (h : k < l.length) (hp : blankB l[k] = false) (h35 : l[k] ≠ 35) : blankEnd false l k = k := by
  apply blankEnd_stop h
  simp [remB, hp, h35]
end Go.Proofs.Ytfoangiphbmipaa
/- The contracts of the small functions of package lex: each returns what the plain function of the same name gives, and leaves the world as it was. -/
namespace Go.Proofs.Ytfoangiphbmipaa
open Go.RowKit

theorem lret_bool {a b : Bool} (h : a = b) : Ending.returned (.bool a) = .returned (.bool b) := by rw [h]
theorem lret_int {k : IntKind} {a b : Int} (h : a = b) : Ending.returned (.int k a) = .returned (.int k b) := by rw [h]

set_option maxHeartbeats 400000 in
theorem isSmall_any (c : Int) (w : World) :
    Calls Try.prog 42 #[.int .u8 c] w fun e w' => e = .returned (.bool (smallB c)) ∧ w = w' := by
  go_enter Try.func42, Try.ntmps42
  go_wp2
  all_goals
    go_ret
    exact ⟨lret_bool (by simp [smallB, *] <;> omega), rfl⟩
set_option maxHeartbeats 400000 in
theorem isDigit_any (c : Int) (w : World) :
    Calls Try.prog 49 #[.int .u8 c] w fun e w' => e = .returned (.bool (digitB c)) ∧ w = w' := by
  go_enter Try.func49, Try.ntmps49
  go_wp2
  all_goals
    go_ret
    exact ⟨lret_bool (by simp [digitB, *] <;> omega), rfl⟩
set_option maxHeartbeats 400000 in
theorem inner_any (c : Int) (w : World) :
    Calls Try.prog 48 #[.int .u8 c] w fun e w' => e = .returned (.bool (innerB c)) ∧ w = w' := by
  by_cases h1 : smallB c = true <;> by_cases h2 : digitB c = true
  all_goals
    go_enter Try.func48, Try.ntmps48
    go_wp2_with (first | (go_at_call 42; refine (isSmall_any _ _).mono ?_; rintro e w' ⟨rfl, rfl⟩) | (go_at_call 49; refine (isDigit_any _ _).mono ?_; rintro e w' ⟨rfl, rfl⟩))
  all_goals
    go_ret
    exact ⟨lret_bool (by simp [innerB, *]), rfl⟩
set_option maxHeartbeats 400000 in
theorem take_inner (s : ByteArray) (i : Nat) (w : World) (hs : s.size ≤ maxLen) (hi : i ≤ s.size) :
    Calls Try.prog 47 #[.string s, .int .i64 i, .func (.func 48) #[] #[]] w fun e w' => e = .returned (.int .i64 (endAt innerB (bs s) i)) ∧ w = w' := by
  unfold maxLen at hs
  go_enter Try.func47, Try.ntmps47
  go_wp2
  go_loop [7] (fun t => ∃ k : Nat, k ≤ s.size ∧ t = .int .i64 k ∧ endAt innerB (bs s) i = endAt innerB (bs s) k) (fun t => s.size - (intOf t).toNat)
  case atStart => exact ⟨i, hi, rfl, rfl⟩
  case round =>
    obtain ⟨k, hk, rfl, he⟩ := hrel
    have He := Lib.hid he
    clear he
    by_cases hlt : k < s.size
    · have hb := bs_get s k hlt
      by_cases hp : innerB (s[k].toNat : Int) = true
      · have HE : Hid (endAt innerB (bs s) k = endAt innerB (bs s) (k + 1)) := endAt_go (by rw [bs_length]; exact hlt) (by rw [hb]; exact hp)
        clear hb
        go_wp2_with (go_at_call 48; refine (inner_any _ _).mono ?_; rintro e w' ⟨rfl, rfl⟩)
        go_round
        case rel => exact ⟨k + 1, by omega, by go_num, He.out.trans HE.out⟩
        case measure => simp [intOf]; omega
      · have hp' : innerB (s[k].toNat : Int) = false := by simpa using hp
        clear hp
        have HE : Hid (endAt innerB (bs s) k = k) := endAt_stop (by rw [bs_length]; exact hlt) (by rw [hb]; exact hp')
        clear hb
        go_wp2_with (go_at_call 48; refine (inner_any _ _).mono ?_; rintro e w' ⟨rfl, rfl⟩)
        go_ret
        exact ⟨lret_int (by rw [He.out, HE.out]), rfl⟩
    · have HE : Hid (endAt innerB (bs s) k = k) := endAt_end (by rw [bs_length]; omega)
      go_wp2_with fail
      go_ret
      exact ⟨lret_int (by rw [He.out, HE.out]), rfl⟩
set_option maxHeartbeats 400000 in
theorem take_digit (s : ByteArray) (i : Nat) (w : World) (hs : s.size ≤ maxLen) (hi : i ≤ s.size) :
    Calls Try.prog 47 #[.string s, .int .i64 i, .func (.func 49) #[] #[]] w fun e w' => e = .returned (.int .i64 (endAt digitB (bs s) i)) ∧ w = w' := by
  unfold maxLen at hs
  go_enter Try.func47, Try.ntmps47
  go_wp2
  go_loop [7] (fun t => ∃ k : Nat, k ≤ s.size ∧ t = .int .i64 k ∧ endAt digitB (bs s) i = endAt digitB (bs s) k) (fun t => s.size - (intOf t).toNat)
  case atStart => exact ⟨i, hi, rfl, rfl⟩
  case round =>
    obtain ⟨k, hk, rfl, he⟩ := hrel
    have He := Lib.hid he
    clear he
    by_cases hlt : k < s.size
    · have hb := bs_get s k hlt
      by_cases hp : digitB (s[k].toNat : Int) = true
      · have HE : Hid (endAt digitB (bs s) k = endAt digitB (bs s) (k + 1)) := endAt_go (by rw [bs_length]; exact hlt) (by rw [hb]; exact hp)
        clear hb
        go_wp2_with (go_at_call 49; refine (isDigit_any _ _).mono ?_; rintro e w' ⟨rfl, rfl⟩)
        go_round
        case rel => exact ⟨k + 1, by omega, by go_num, He.out.trans HE.out⟩
        case measure => simp [intOf]; omega
      · have hp' : digitB (s[k].toNat : Int) = false := by simpa using hp
        clear hp
        have HE : Hid (endAt digitB (bs s) k = k) := endAt_stop (by rw [bs_length]; exact hlt) (by rw [hb]; exact hp')
        clear hb
        go_wp2_with (go_at_call 49; refine (isDigit_any _ _).mono ?_; rintro e w' ⟨rfl, rfl⟩)
        go_ret
        exact ⟨lret_int (by rw [He.out, HE.out]), rfl⟩
    · have HE : Hid (endAt digitB (bs s) k = k) := endAt_end (by rw [bs_length]; omega)
      go_wp2_with fail
      go_ret
      exact ⟨lret_int (by rw [He.out, HE.out]), rfl⟩
end Go.Proofs.Ytfoangiphbmipaa
/- The contract of lex.blanks: it returns the place behind the blanks, and changes nothing that was there. -/
namespace Go.Proofs.Ytfoangiphbmipaa
open Go.RowKit

end Go.Proofs.Ytfoangiphbmipaa
/- The contracts of lex.Keyword, word, number, sign and token: each returns what the plain function of the like name gives, and leaves the world as it was. -/
namespace Go.Proofs.Ytfoangiphbmipaa
open Go.RowKit

theorem ret_trip {a a' b b' c c' : Int} (h1 : a = a') (h2 : b = b') (h3 : c = c') : Ending.returned (.tuple #[.int .i64 a, .int .i64 b, .int .i64 c]) = .returned (.tuple #[.int .i64 a', .int .i64 b', .int .i64 c']) := by rw [h1, h2, h3]
def trip (t : Int × Nat × Int) : Value := .tuple #[.int .i64 t.1, .int .i64 t.2.1, .int .i64 t.2.2]

set_option maxHeartbeats 400000 in
theorem letters_any (s : ByteArray) (i : Nat) (w : World) (hs : s.size ≤ maxLen) (hi : i ≤ s.size) :
    Calls Try.prog 43 #[.string s, .int .i64 i] w fun e w' => e = .returned (.int .i64 (endAt innerB (bs s) i)) ∧ w = w' := by
  go_enter Try.func43, Try.ntmps43
  go_wp2_with (go_at_call 47; refine (take_inner s i _ hs hi).mono ?_; rintro e w' ⟨rfl, rfl⟩)
  go_ret
  exact ⟨rfl, rfl⟩
def kwS (l : List UInt8) : Bool := l == [102, 117, 110] || l == [108, 101, 116] || l == [114, 101, 99] || l == [105, 110] || l == [105, 102] || l == [116, 104, 101, 110] || l == [101, 108, 115, 101] || l == [116, 114, 117, 101] || l == [102, 97, 108, 115, 101] || l == [105, 110, 116] || l == [98, 111, 111, 108]
theorem kwS_eq (s : ByteArray) : kwS s.toList = kwB (bs s) := by
  unfold kwS kwB
  simp only [bs_beq, List.map_cons, List.map_nil]
  rfl
set_option maxHeartbeats 400000 in
theorem keyword_any (s : ByteArray) (w : World) :
    Calls Try.prog 44 #[.string s] w fun e w' => e = .returned (.bool (kwB (bs s))) ∧ w = w' := by
  rw [← kwS_eq]
  go_enter Try.func44, Try.ntmps44
  go_wp2
  all_goals
    go_ret
    exact ⟨lret_bool (by simp_all [kwS]), rfl⟩
end Go.Proofs.Ytfoangiphbmipaa
/- The contracts of lex.number and token. -/
namespace Go.Proofs.Ytfoangiphbmipaa
open Go.RowKit

/-- The number's answer, by what the tests say. -/
def numR (bad : Bool) (k n : Nat) : Int × Nat × Int := if bad = true then (0, 0, 3) else if 9 < n - k then (0, 0, 2) else (2, n, 0)
theorem numberT_eq (l : List Int) (k n : Nat) (hn : n = endAt digitB l k) : numberT l k = numR ((at_ l k == 48 && decide (k + 1 < n)) || (decide (n < l.length) && (smallB (at_ l n) || at_ l n == 95))) k n := by
  subst hn; rfl

/-- What a call owes that tells the token at a place. -/
def TripPost (r : Int × Nat × Int) (w : World) (e : Ending) (w' : World) : Prop := e = .returned (trip r) ∧ w = w'
theorem num_post {bad : Bool} {k n : Nat} {w : World} {a b c : Int} (h : (bad = true ∧ a = 0 ∧ b = 0 ∧ c = 3) ∨ (bad = false ∧ 9 < n - k ∧ a = 0 ∧ b = 0 ∧ c = 2) ∨ (bad = false ∧ n - k ≤ 9 ∧ a = 2 ∧ b = n ∧ c = 0)) :
    TripPost (numR bad k n) w (.returned (.tuple #[.int .i64 a, .int .i64 b, .int .i64 c])) w := by
  unfold TripPost numR trip
  refine ⟨?_, rfl⟩
  rcases h with ⟨rfl, rfl, rfl, rfl⟩ | ⟨rfl, h, rfl, rfl, rfl⟩ | ⟨rfl, h, rfl, rfl, rfl⟩
  · rfl
  · rw [if_neg (by simp), if_pos h]; rfl
  · rw [if_neg (by simp), if_neg (by omega)]

end Go.Proofs.Ytfoangiphbmipaa
/- The contract of lex.Words: it returns the tokens that the plain function tells, in memory of its own, or the first error, and changes nothing that was there. -/
namespace Go.Proofs.Ytfoangiphbmipaa
open Go.RowKit

/-- A token's cells. -/
def tokCells (s : ByteArray) (t : Int × Nat × Nat) : List Value := [.int .i64 t.1, .string (s.extract t.2.1 t.2.2), .int .i64 t.2.1, .int .i64 t.2.2]
def toksCells (s : ByteArray) (ts : List (Int × Nat × Nat)) : List Value := ts.flatMap (tokCells s)
theorem tok_one (s : ByteArray) (t : Int × Nat × Nat) : ∀ u ∈ tokCells s t, u.oneCell' = true := by
  intro u hu
  simp [tokCells] at hu
  rcases hu with rfl | rfl | rfl | rfl <;> rfl
theorem toksCells_snoc (s : ByteArray) (ts : List (Int × Nat × Nat)) (t : Int × Nat × Nat) : toksCells s (ts ++ [t]) = toksCells s ts ++ tokCells s t := by
  simp [toksCells]
/-- What the call owns stays so where only what is behind changes. -/
theorem lown_below {w w' : World} {B base : Nat} {e : TypeId} {size : Nat} {v : Value} {n : Nat} {xs : List Value} (h : w.ownsRow base e size v n xs) (hb : Below B w w') (hB : w.heap.size ≤ B) : w'.ownsRow base e size v n xs := by
  obtain ⟨h1, h2⟩ := h
  refine ⟨h1, ?_⟩
  rcases h2 with h2 | ⟨g, cap, cur, hv, hg, hh, r⟩
  · exact Or.inl h2
  · refine Or.inr ⟨g, cap, cur, hv, hg, ?_, r⟩
    rw [hb.block g ?_]
    · exact hh
    · have := (Array.getElem?_eq_some_iff.1 hh).1
      omega
end Go.Proofs.Ytfoangiphbmipaa
/- The contracts of the small functions of the document's answer for package lex: Letter, Digit, Inner, Keyword. -/
namespace Go.Proofs.Ytfoangiphbmipaa
open Go.RowKit

theorem kwS_eq' (s : ByteArray) : kwB (bs s) = ([102, 117, 110] == s.toList || [108, 101, 116] == s.toList || [114, 101, 99] == s.toList || [105, 110] == s.toList || [105, 102] == s.toList || [116, 104, 101, 110] == s.toList || [101, 108, 115, 101] == s.toList || [116, 114, 117, 101] == s.toList || [102, 97, 108, 115, 101] == s.toList || [105, 110, 116] == s.toList || [98, 111, 111, 108] == s.toList) := by
  rw [← kwS_eq]
  unfold kwS
  have hc : ∀ a b : List UInt8, (a == b) = (b == a) := fun a b => by rw [Bool.eq_iff_iff, beq_iff_eq, beq_iff_eq]; exact eq_comm
  simp only [hc s.toList]
end Go.Proofs.Ytfoangiphbmipaa
/- The contracts of lex.Name, and of the answer's Name. -/
namespace Go.Proofs.Ytfoangiphbmipaa
open Go.RowKit

/-- Whether a text is a name that may be. -/
def nameB (l : List Int) : Bool := !l.isEmpty && (smallB (at_ l 0) && (endAt innerB l 0 == l.length && (decide (l.length ≤ 20) && !kwB l)))
theorem name_empty (s : ByteArray) (h : s.size = 0) : nameB (bs s) = false := by
  have : bs s = [] := List.eq_nil_of_length_eq_zero (by rw [bs_length]; exact h)
  rw [this]; rfl
theorem name_full (s : ByteArray) (h : 0 < s.size) : nameB (bs s) = (smallB (s[0].toNat : Int) && (endAt innerB (bs s) 0 == s.size && (decide (s.size ≤ 20) && !kwB (bs s)))) := by
  unfold nameB
  rw [bs_length, at_bs s 0 h]
  have : (bs s).isEmpty = false := by
    have := bs_length s
    rcases hb : bs s with _ | ⟨a, l⟩
    · rw [hb] at this; simp at this; omega
    · rfl
  rw [this]; rfl
theorem toList_nil (s : ByteArray) (h : s.size = 0) : s.toList = [] := by
  rw [toList_data]
  exact List.eq_nil_of_length_eq_zero (by rw [Array.length_toList]; exact h)
theorem toList_ne (s : ByteArray) (h : 0 < s.size) : s.toList.isEmpty = false := by
  rw [toList_data]
  rcases hb : s.data.toList with _ | ⟨a, l⟩
  · have : s.data.toList.length = 0 := by rw [hb]; rfl
    rw [Array.length_toList] at this
    have h2 : s.data.size = s.size := rfl
    omega
  · rfl

set_option maxHeartbeats 1000000 in
theorem lname_any (s : ByteArray) (w : World) (hs : s.size ≤ maxLen) :
    Calls Try.prog 38 #[.string s] w fun e w' => e = .returned (.bool (nameB (bs s))) ∧ w = w' := by
  by_cases h0 : s.size = 0
  · rw [name_empty s h0]
    have e1 := toList_nil s h0
    clear h0
    go_enter Try.func38, Try.ntmps38
    go_wp2_with fail
    go_ret
    exact ⟨rfl, rfl⟩
  · have h1 : 0 < s.size := by omega
    rw [name_full s h1]
    have e1 := toList_ne s h1
    have hle := endAt_le innerB (bs s) 0 (Nat.zero_le _)
    rw [bs_length] at hle
    obtain ⟨n, hn⟩ : ∃ n, n = endAt innerB (bs s) 0 := ⟨_, rfl⟩
    rw [← hn] at hle ⊢
    have Hn := Lib.hid hn
    clear hn h0
    obtain ⟨R, hR⟩ : ∃ R, R = (smallB (s[0].toNat : Int) && (n == s.size && (decide (s.size ≤ 20) && !kwB (bs s)))) := ⟨_, rfl⟩
    rw [← hR]
    have HR := Lib.hid hR
    clear hR
    have hsl := hs
    unfold maxLen at hs
    by_cases h2 : smallB (s[0].toNat : Int) = true
    · by_cases h3 : n = s.size
      · have h3' : ((n : Int) == (s.size : Int)) = true := by simp; omega
        have H3 := Lib.hid h3
        clear h3
        by_cases h4 : s.size ≤ 20
        · have h4' : (s.size : Int) ≤ 20 := by omega
          by_cases h5 : kwB (bs s) = true
          all_goals
            go_enter Try.func38, Try.ntmps38
            go_wp2_with (go_at_call 42; refine (isSmall_any _ _).mono ?_; rintro e w' ⟨rfl, rfl⟩)
            refine (letters_any s 0 _ hsl (Nat.zero_le _)).mono ?_
            rintro e w' ⟨rfl, rfl⟩
            rw [← Hn.out]
            go_wp2_with (go_at_call 44; refine (keyword_any _ _).mono ?_; rintro e w' ⟨rfl, rfl⟩)
            go_ret
            exact ⟨lret_bool (by rw [HR.out]; simp [h2, H3.out, h4, h5]), rfl⟩
        · have h4' : ¬ (s.size : Int) ≤ 20 := by omega
          go_enter Try.func38, Try.ntmps38
          go_wp2_with (go_at_call 42; refine (isSmall_any _ _).mono ?_; rintro e w' ⟨rfl, rfl⟩)
          refine (letters_any s 0 _ hsl (Nat.zero_le _)).mono ?_
          rintro e w' ⟨rfl, rfl⟩
          rw [← Hn.out]
          go_wp2_with (go_at_call 44; refine (keyword_any _ _).mono ?_; rintro e w' ⟨rfl, rfl⟩)
          go_ret
          exact ⟨lret_bool (by rw [HR.out]; simp [h2, H3.out, h4]), rfl⟩
      · have h3' : ((n : Int) == (s.size : Int)) = false := by simp; omega
        go_enter Try.func38, Try.ntmps38
        go_wp2_with (go_at_call 42; refine (isSmall_any _ _).mono ?_; rintro e w' ⟨rfl, rfl⟩)
        refine (letters_any s 0 _ hsl (Nat.zero_le _)).mono ?_
        rintro e w' ⟨rfl, rfl⟩
        rw [← Hn.out]
        go_wp2_with (go_at_call 44; refine (keyword_any _ _).mono ?_; rintro e w' ⟨rfl, rfl⟩)
        go_ret
        exact ⟨lret_bool (by rw [HR.out]; simp [h3]), rfl⟩
    · have h2' : smallB (s[0].toNat : Int) = false := by simpa using h2
      clear h2
      go_enter Try.func38, Try.ntmps38
      go_wp2_with (go_at_call 42; refine (isSmall_any _ _).mono ?_; rintro e w' ⟨rfl, rfl⟩)
      go_ret
      exact ⟨lret_bool (by rw [HR.out]; simp [h2']), rfl⟩

theorem nameB_inner (l : List Int) (k : Nat) (h : k < l.length) (he : endAt innerB l 0 = endAt innerB l k) (hi : innerB l[k] = false) : nameB l = false := by
  rw [endAt_stop h hi] at he
  unfold nameB
  rw [he]
  have : (k == l.length) = false := by simp; omega
  rw [this]; simp
theorem nameB_first (l : List Int) (h : 0 < l.length) (hi : smallB l[0] = false) : nameB l = false := by
  unfold nameB
  rw [at_get _ _ h, hi]; simp
theorem nameB_end (l : List Int) (he : endAt innerB l 0 = l.length) (hs : 0 < l.length → smallB (at_ l 0) = true) : nameB l = (decide (0 < l.length) && (decide (l.length ≤ 20) && !kwB l)) := by
  unfold nameB
  rw [he]
  rcases l with _ | ⟨a, l⟩
  · rfl
  · rw [hs (by simp)]; simp

end Go.Proofs.Ytfoangiphbmipaa
