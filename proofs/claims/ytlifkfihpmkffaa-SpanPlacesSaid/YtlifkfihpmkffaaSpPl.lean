/- The contracts of span.Place and of the answer's Place; the walk of the law SpanPlaces. -/
import Derived.Test.YtlifkfihpmkffaaShPlace
import Derived.Test.YtlifkfihpmkffaaSpD
namespace Go.Proofs.Ytlifkfihpmkffaa
open Go.RowKit

theorem lastIdx_ext (s : ByteArray) (p : Nat) (hp : p ≤ s.size) (k : Nat) (hk : k ≤ p) : Lib.lastIdx (s.extract 0 p) 10 k = Lib.lastIdx s 10 k := by
  induction k with
  | zero => rfl
  | succ k ih =>
    unfold Lib.lastIdx
    rw [ih (by omega)]
    have e : (s.extract 0 p).data[k]! = s.data[k]! := by
      rw [getElem!_pos _ k (by simp; omega), getElem!_pos _ k (by simp; omega)]
      simp
    rw [e]
/-- The line, and the column, behind the first k bytes. -/
def lineAt (s : ByteArray) (k : Nat) : Int := 1 + (s.data.toList.take k).count 10
def colAt (s : ByteArray) (k : Nat) : Int := k - Lib.lastIdx s 10 k
theorem lineAt_succ (s : ByteArray) (k : Nat) (hk : k < s.size) : lineAt s (k + 1) = if (s[k].toNat : Int) = 10 then lineAt s k + 1 else lineAt s k := by
  unfold lineAt
  rw [List.take_succ_eq_append_getElem (by simpa using hk), List.count_append]
  have e : s.data.toList[k]'(by simpa using hk) = s[k] := rfl
  rw [e]
  by_cases h : (s[k].toNat : Int) = 10
  · have h2 : s[k] = 10 := by apply UInt8.toNat_inj.1; simpa using (by omega : s[k].toNat = 10)
    rw [if_pos h, h2]
    simp
    omega
  · have h2 : ¬ s[k] = 10 := by rintro h3; rw [h3] at h; simp at h
    rw [if_neg h]
    simp [h2]
theorem colAt_succ (s : ByteArray) (k : Nat) (hk : k < s.size) : colAt s (k + 1) = if (s[k].toNat : Int) = 10 then 1 else colAt s k + 1 := by
  unfold colAt
  have e : s.data[k]! = s[k] := getElem!_pos _ k (by simpa using hk)
  rw [show Lib.lastIdx s 10 (k + 1) = if ((s.data[k]!).toNat : Int) = 10 then (k : Int) else Lib.lastIdx s 10 k from rfl, e]
  split <;> omega
theorem colAt_zero (s : ByteArray) : colAt s 0 = 1 := by simp [colAt, Lib.lastIdx]
theorem lineAt_zero (s : ByteArray) : lineAt s 0 = 1 := by simp [lineAt]
theorem lineAt_bound (s : ByteArray) (k : Nat) : 1 ≤ lineAt s k ∧ lineAt s k ≤ k + 1 := by
  unfold lineAt
  have h1 := List.count_le_length (a := (10 : UInt8)) (l := s.data.toList.take k)
  have h2 := List.length_take_le k s.data.toList
  omega
theorem colAt_bound (s : ByteArray) (k : Nat) : 0 ≤ colAt s k ∧ colAt s k ≤ k + 1 := by
  unfold colAt
  rcases Lib.lastIdx_spec s 10 k with ⟨h, _⟩ | ⟨i, hi, h, _⟩
  · rw [h]; omega
  · rw [h]; omega
def clampN (i : Int) (n : Nat) : Nat := (max 0 (min i n)).toNat
set_option maxHeartbeats 1000000 in
set_option maxRecDepth 100000 in
theorem place_any (s : ByteArray) (i : Int) (w : World) (hs : s.size ≤ 1000) :
    Calls Try.prog 26 #[.string s, .int .i64 i] w fun e w' => e = .returned (.tuple #[.int .i64 (lineAt s (clampN i s.size)), .int .i64 (colAt s (clampN i s.size))]) ∧ w = w' := by
  obtain ⟨p, hp⟩ : ∃ p, clampN i s.size = p := ⟨_, rfl⟩
  have hps : p ≤ s.size := by rw [← hp]; unfold clampN; omega
  obtain ⟨z, hz⟩ : ∃ z : Int, max 0 (min i (s.size : Int)) = z := ⟨_, rfl⟩
  have hzp : z.toNat = p := by rw [← hp, ← hz]; rfl
  have hz0 : 0 ≤ z := by omega
  have hz1 : z ≤ (s.size : Int) := by omega
  rw [hp]
  have b1 := lineAt_bound s p
  have b2 := colAt_bound s p
  have hlast : Lib.lastIndexByte (s.extract 0 p) 10 = p - colAt s p := by
    unfold Lib.lastIndexByte colAt
    have e : (s.extract 0 p).size = p := by simp; omega
    rw [e, lastIdx_ext s p hps p (Nat.le_refl _)]
    omega
  have hcount : (Lib.countByte (s.extract 0 p).data.toList 10 : Int) = lineAt s p - 1 := by
    unfold Lib.countByte lineAt
    have e : (s.extract 0 p).data.toList = s.data.toList.take p := by simp
    rw [e]
    omega
  have hsz : (s.extract 0 p).size = p := by simp; omega
  have h1 := Try.strings_Count_one (s.extract 0 p) 10 w
  rw [hcount] at h1
  have h2 := Try.strings_LastIndexByte (s.extract 0 p) 10 (by omega) w
  rw [hlast] at h2
  generalize lineAt s p = L at *
  generalize colAt s p = C at *
  have H1 := Lib.hid h1
  have H2 := Lib.hid h2
  clear h1 h2 hlast hcount hp
  go_enter Try.func26, Try.ntmps26
  go_wp2_with fail
  refine H1.out.mono ?_
  rintro e w1 ⟨rfl, rfl⟩
  go_wp2_with fail
  refine H2.out.mono ?_
  rintro e w1 ⟨rfl, rfl⟩
  go_wp2_with fail
  go_ret2
  refine ⟨?_, rfl⟩
  show Ending.returned (.tuple #[.int .i64 (1 + (L - 1)), .int .i64 ((p : Int) - (p - C))]) = _
  rw [show (1 : Int) + (L - 1) = L by omega, show (p : Int) - (p - C) = C by omega]
theorem place_ret {L C a b : Int} (h1 : L = a) (h2 : C = b) : Ending.returned (.tuple #[.int .i64 L, .int .i64 C]) = .returned (.tuple #[.int .i64 a, .int .i64 b]) := by rw [h1, h2]
set_option maxHeartbeats 1000000 in
set_option maxRecDepth 100000 in
theorem rplace_any (s : ByteArray) (i : Int) (w : World) (hs : s.size ≤ 1000) :
    Calls Try.prog 27 #[.string s, .int .i64 i] w fun e w' => e = .returned (.tuple #[.int .i64 (lineAt s (clampN i s.size)), .int .i64 (colAt s (clampN i s.size))]) ∧ w = w' := by
  obtain ⟨p, hp⟩ : ∃ p, clampN i s.size = p := ⟨_, rfl⟩
  have hps : p ≤ s.size := by rw [← hp]; unfold clampN; omega
  have hin : ∀ k : Nat, k < p → k < s.size ∧ (k : Int) < i := by
    intro k hk; rw [← hp] at hk; unfold clampN at hk; omega
  have hend : ¬ p < s.size ∨ (p < s.size ∧ ¬ (p : Int) < i) := by
    have : p = (max 0 (min i s.size)).toNat := hp.symm
    omega
  rw [hp]
  have Hin := Lib.hid hin
  clear hin hp
  go_enter Try.func27, Try.ntmps27
  go_wp2_with fail
  go_loop [6, 7, 8] (fun t6 t7 t8 => ∃ (k : Nat) (L C : Int), k ≤ p ∧ t8 = .int .i64 k ∧ t6 = .int .i64 L ∧ t7 = .int .i64 C ∧ L = lineAt s k ∧ C = colAt s k) (fun _ _ t => p - (intOf t).toNat)
  case atStart => exact ⟨0, 1, 1, Nat.zero_le _, rfl, rfl, rfl, (lineAt_zero s).symm, (colAt_zero s).symm⟩
  case round =>
    obtain ⟨k, L, C, hk, rfl, rfl, rfl, hL, hC⟩ := hrel
    have b1 := lineAt_bound s k
    have b2 := colAt_bound s k
    rw [← hL] at b1
    rw [← hC] at b2
    have HL := Lib.hid hL
    have HC := Lib.hid hC
    clear hL hC
    by_cases hkp : k < p
    · obtain ⟨h1, h2⟩ := Hin.out k hkp
      have hl := lineAt_succ s k h1
      have hc := colAt_succ s k h1
      rw [← HL.out] at hl
      rw [← HC.out] at hc
      have Hl := Lib.hid hl
      have Hc := Lib.hid hc
      clear hl hc hend
      have d1 : decide (k < s.size) = true := decide_eq_true h1
      have d2 : decide ((k : Int) < i) = true := decide_eq_true h2
      by_cases hb : (s[k].toNat : Int) = 10
      · have d3 : ((s[k].toNat : Int) == 10) = true := by simpa using hb
        have Hb := Lib.hid hb
        clear hb
        go_wp2_with fail
        go_round
        case rel => exact ⟨k + 1, L + 1, 1, by omega, by go_num, rfl, rfl, by rw [Hl.out, if_pos Hb.out], by rw [Hc.out, if_pos Hb.out]⟩
        case measure => simp [intOf]; omega
      · have d3 : ((s[k].toNat : Int) == 10) = false := by simpa using hb
        have Hb := Lib.hid hb
        clear hb
        go_wp2_with fail
        go_round
        case rel => exact ⟨k + 1, L, C + 1, by omega, by go_num, rfl, rfl, by rw [Hl.out, if_neg Hb.out], by rw [Hc.out, if_neg Hb.out]⟩
        case measure => simp [intOf]; omega
    · obtain rfl : k = p := by omega
      clear Hin
      rcases hend with h1 | ⟨h1, h2⟩
      · have d1 : decide (k < s.size) = false := decide_eq_false h1
        go_wp2_with fail
        go_ret2
        exact ⟨place_ret HL.out HC.out, rfl⟩
      · have d1 : decide (k < s.size) = true := decide_eq_true h1
        have d2 : decide ((k : Int) < i) = false := decide_eq_false (by omega)
        go_wp2_with fail
        go_ret2
        exact ⟨place_ret HL.out HC.out, rfl⟩
set_option maxHeartbeats 1000000 in
set_option maxRecDepth 100000 in
theorem spanPlaces_walk (w : World) (s : ByteArray) (i : Int) :
    Calls Try.prog 6 #[.string s, .int .i64 i] w fun e w' => e = .returned (.bool true) ∧ Below w.heap.size w w' := by
  by_cases hbig : s.size ≤ 300
  · have j1 : ¬ (300 : Int) < (s.size : Int) := by omega
    have h1 := place_any s i w (by omega)
    have h2 := rplace_any s i w (by omega)
    generalize lineAt s (clampN i s.size) = L at *
    generalize colAt s (clampN i s.size) = C at *
    have H1 := Lib.hid h1
    have H2 := Lib.hid h2
    clear h1 h2
    go_enter Try.func6, Try.ntmps6
    go_wp2_with fail
    refine H1.out.mono ?_
    rintro e w1 ⟨rfl, rfl⟩
    go_wp2_with fail
    refine H2.out.mono ?_
    rintro e w1 ⟨rfl, rfl⟩
    go_wp2_with (go_at_call 12; refine (awake1 _).mono ?_; rintro e w5 ⟨rfl, b5⟩)
    go_ret
    exact ⟨rfl, b5⟩
  · have j1 : (300 : Int) < (s.size : Int) := by omega
    go_enter Try.func6, Try.ntmps6
    go_wp2_with (go_at_call 12; refine (awake1 _).mono ?_; rintro e w' ⟨rfl, hb⟩)
    go_ret
    exact ⟨rfl, hb⟩
end Go.Proofs.Ytlifkfihpmkffaa
