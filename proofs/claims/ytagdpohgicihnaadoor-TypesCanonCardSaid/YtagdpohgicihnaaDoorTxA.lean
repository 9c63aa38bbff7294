/- The answer's Digits and Name. -/
import Derived.Test.YtagdpohgicihnaaDoorPrB
import Derived.Deep.QuietTactic
import Derived.BigQuiet
import Derived.IntWalk
namespace Go.Proofs.YtagdpohgicihnaaDoor
open Go.RowKit Go.Shelf

theorem dig_sub (k : Nat) (h : k < 10) : (⟨#[48, 49, 50, 51, 52, 53, 54, 55, 56, 57]⟩ : ByteArray).extract k (k + 1) = ⟨[UInt8.ofNat (48 + k)].toArray⟩ := by
  have : ∀ k : Fin 10, ((⟨#[48, 49, 50, 51, 52, 53, 54, 55, 56, 57]⟩ : ByteArray).extract k.1 (k.1 + 1)).data.toList = [UInt8.ofNat (48 + k.1)] := by decide +kernel
  apply ByteArray.ext
  apply Array.ext'
  simpa using this ⟨k, h⟩
theorem let_sub (k : Nat) (h : k < 26) : (⟨#[97, 98, 99, 100, 101, 102, 103, 104, 105, 106, 107, 108, 109, 110, 111, 112, 113, 114, 115, 116, 117, 118, 119, 120, 121, 122]⟩ : ByteArray).extract k (k + 1) = ⟨[UInt8.ofNat (97 + k)].toArray⟩ := by
  have : ∀ k : Fin 26, ((⟨#[97, 98, 99, 100, 101, 102, 103, 104, 105, 106, 107, 108, 109, 110, 111, 112, 113, 114, 115, 116, 117, 118, 119, 120, 121, 122]⟩ : ByteArray).extract k.1 (k.1 + 1)).data.toList = [UInt8.ofNat (97 + k.1)] := by decide +kernel
  apply ByteArray.ext
  apply Array.ext'
  simpa using this ⟨k, h⟩
set_option maxHeartbeats 1000000 in
set_option maxRecDepth 100000 in
theorem digits_any (m : Nat) : ∀ (n : Nat) (w : World), n < m → n ≤ 1073741824 → Calls Tryd.prog 66 #[.int .i64 n] w fun e w' => e = .returned (.string ⟨(Lib.decDigits n).toArray⟩) ∧ ∃ q, w' = w.drewN q := by
  induction m with
  | zero => intro n w h; omega
  | succ m ih =>
    intro n w hm hn
    by_cases h : n < 10
    · have f1 : decide ((n : Int) < 10) = true := decide_eq_true (by omega)
      go_enter Tryd.func66, Tryd.ntmps66
      go_wp2
      go_ret
      refine ⟨?_, 0, rfl⟩
      rw [Lib.decDigits, dif_pos h]
      exact congrArg (fun s => Ending.returned (.string s)) (dig_sub n h)
    · have f1 : decide ((n : Int) < 10) = false := decide_eq_false (by omega)
      obtain ⟨a, ha⟩ : ∃ a, n % 10 = a := ⟨_, rfl⟩
      have ha9 : a ≤ 9 := by omega
      obtain ⟨c, hc⟩ : ∃ c, UInt8.ofNat (48 + a) = c := ⟨_, rfl⟩
      have hx := dig_sub a (by omega)
      rw [hc] at hx
      have hln : (Lib.decDigits (n / 10)).length ≤ 21 := by
        have := Lib.itoa_length_le ((n / 10 : Nat) : Int) (by omega) (by omega)
        rwa [Lib.itoa_nonneg] at this
      have hres : (⟨(Lib.decDigits (n / 10)).toArray⟩ : ByteArray) ++ (⟨#[c]⟩ : ByteArray) = ⟨(Lib.decDigits n).toArray⟩ := by
        rw [show (⟨#[c]⟩ : ByteArray) = ⟨[c].toArray⟩ from rfl, bapp, Lib.decDigits.eq_def n, dif_neg h, ha, hc]
      have HRES := Lib.hid hres
      clear hres hc
      have htm : (n : Int).tmod 10 = (a : Int) := by rw [Int.tmod_eq_emod_of_nonneg (by omega)]; omega
      have HR : ∀ w, Calls Tryd.prog 66 #[.int .i64 ((n : Int) / 10)] w fun e w' => e = .returned (.string ⟨(Lib.decDigits (n / 10)).toArray⟩) ∧ ∃ q, w' = w.drewN q := fun w => by
        rw [show ((n : Int) / 10) = ((n / 10 : Nat) : Int) by omega]
        exact ih (n / 10) w (by omega) (by omega)
      have HR := Lib.hid HR
      clear ih
      go_enter Tryd.func66, Tryd.ntmps66
      go_wp2_with fail
      have hw1 : IntKind.i64.wrap ((n : Int) / 10) = (n : Int) / 10 := IntWalk.i64_in _ (by omega)
      have hw3 : IntKind.i64.wrap ((a : Int) + 1) = (a : Int) + 1 := IntWalk.i64_in _ (by omega)
      have hw4 : ((a : Int) + 1).toNat = a + 1 := by omega
      have hw5 : (a : Int) + 1 ≤ 10 := by omega
      have hw6 : (a : Int) ≤ 9 := by omega
      have hw7 : (a : Int) < 10 := by omega
      have hw8 : a + 1 ≤ 10 := by omega
      have hw9 : (a : Int) ≤ (a : Int) + 1 := by omega
      have hwa : (0 : Int) ≤ (a : Int) + 1 := by omega
      have hwb : a < 10 := by omega
      clear ha
      go_quiet ((go_at_call 66; exact Calls.quiet_of (HR.out _)))
      clear hw1 hw3 hw4
      go_wp2_with fail
      go_ret
      exact ⟨congrArg (fun s => Ending.returned (.string s)) HRES.out, _, rfl⟩
set_option maxHeartbeats 1000000 in
set_option maxRecDepth 100000 in
theorem rname_any (n : Int) (w : World) : Calls Tryd.prog 46 #[.int .i64 n] w fun e w' => e = .returned (.string ⟨(nameB n).toArray⟩) ∧ Below w.heap.size w w' := by
  by_cases h0 : 0 ≤ n
  · by_cases h1 : n < 1073741824
    · have g0 : decide (n < 0) = false := decide_eq_false (by omega)
      have g1 : decide (1073741824 ≤ n) = false := decide_eq_false (by omega)
      obtain ⟨a, ha⟩ : ∃ a : Nat, (a : Int) = n % 26 := ⟨(n % 26).toNat, by omega⟩
      have ha9 : a < 26 := by omega
      obtain ⟨c, hc⟩ : ∃ c, UInt8.ofNat (97 + a) = c := ⟨_, rfl⟩
      have hx : (⟨#[97, 98, 99, 100, 101, 102, 103, 104, 105, 106, 107, 108, 109, 110, 111, 112, 113, 114, 115, 116, 117, 118, 119, 120, 121, 122]⟩ : ByteArray).extract (n % 26).toNat (n % 26 + 1).toNat = ⟨#[c]⟩ := by
        rw [show (n % 26).toNat = a by omega, show (n % 26 + 1).toNat = a + 1 by omega, let_sub a ha9, hc]
      have hnB : nameB n = 39 :: c :: (if n < 26 then [] else Lib.itoa (n / 26)) := by
        unfold nameB
        rw [if_pos (by simp [h0, h1]), show (n % 26).toNat = a by omega, hc]
      by_cases h26 : n < 26
      · have f1 : decide (n < 26) = true := decide_eq_true h26
        rw [hnB, if_pos h26]
        clear hc hnB
        go_enter Tryd.func46, Tryd.ntmps46
        go_wp2
        go_ret
        exact ⟨congrArg (fun s => Ending.returned (.string s)) (bapp [39] [c]), Below.refl _ _⟩
      · have f1 : decide (n < 26) = false := decide_eq_false h26
        rw [hnB, if_neg h26]
        have hln : (Lib.itoa (n / 26)).length ≤ 21 := Lib.itoa_length_le _ (by omega) (by omega)
        have HD := digits_any _ (n / 26).toNat w (Nat.lt_succ_self _) (by omega)
        rw [← Lib.itoa_nonneg, show (((n / 26).toNat : Nat) : Int) = n / 26 by omega] at HD
        have HD := Lib.hid HD
        clear hc hnB ha
        go_enter Tryd.func46, Tryd.ntmps46
        go_wp2_with (go_at_call 66; refine HD.out.mono ?_; rintro e w' ⟨rfl, q, rfl⟩)
        go_ret
        exact ⟨congrArg (fun s => Ending.returned (.string s)) (bapp [39, c] (Lib.itoa (n / 26))), below_drewN (Below.refl _ _) q⟩
    · have g0 : decide (n < 0) = false := decide_eq_false (by omega)
      have g1 : decide (1073741824 ≤ n) = true := decide_eq_true (by omega)
      rw [show nameB n = [] by unfold nameB; rw [if_neg (by simp [h1])]]
      go_enter Tryd.func46, Tryd.ntmps46
      go_wp2
      go_ret
      exact ⟨rfl, Below.refl _ _⟩
  · have g0 : decide (n < 0) = true := decide_eq_true (by omega)
    rw [show nameB n = [] by unfold nameB; rw [if_neg (by simp [h0])]]
    go_enter Tryd.func46, Tryd.ntmps46
    go_wp2
    go_ret
    exact ⟨rfl, Below.refl _ _⟩
end Go.Proofs.YtagdpohgicihnaaDoor
