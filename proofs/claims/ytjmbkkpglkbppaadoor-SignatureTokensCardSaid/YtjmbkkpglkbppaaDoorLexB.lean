/- The contract of lex.blanks: it returns the place behind the blanks, and changes nothing that was there. -/
import Derived.Test.YtjmbkkpglkbppaaDoorLexA
namespace Go.Proofs.YtjmbkkpglkbppaaDoor
open Go.RowKit

set_option maxHeartbeats 400000 in
theorem blank1_any (c : Int) (b : Nat) (r : Bool) (w : World) (hc : w.cell? ⟨b, 0, none⟩ = some (.bool r)) (hf : w.frozen? ⟨b, 0, none⟩ = false) :
    Calls Tryd.prog 42 #[.int .u8 c, .pointer (some ⟨b, 0, none⟩)] w fun e w' => e = .returned (.bool (remB r c || blankB c)) ∧ w' = w.setCell ⟨b, 0, none⟩ (.bool (remB r c)) := by
  go_enter Tryd.func42, Tryd.ntmps42
  go_wp2_with (go_at_call 43; refine (isBlank_any _ _).mono ?_; rintro e w' ⟨rfl, rfl⟩)
  all_goals
    go_ret
    refine ⟨lret_bool ?_, ?_⟩
    all_goals simp [remB, *]
set_option maxHeartbeats 400000 in
theorem take_blank (s : ByteArray) (i : Nat) (b : Nat) (r0 : Bool) (w : World) (hs : s.size ≤ maxLen) (hi : i ≤ s.size) (hc : w.cell? ⟨b, 0, none⟩ = some (.bool r0)) (hf : w.frozen? ⟨b, 0, none⟩ = false) :
    Calls Tryd.prog 41 #[.string s, .int .i64 i, .func (.func 42) #[] #[.pointer (some ⟨b, 0, none⟩)]] w fun e w' => e = .returned (.int .i64 (blankEnd r0 (bs s) i)) ∧ Below b w w' := by
  unfold maxLen at hs
  go_enter Tryd.func41, Tryd.ntmps41
  go_wp2
  go_loopw [7] (fun t wr => ∃ (k : Nat) (r : Bool), k ≤ s.size ∧ t = .int .i64 k ∧ wr.cell? ⟨b, 0, none⟩ = some (.bool r) ∧ wr.frozen? ⟨b, 0, none⟩ = false ∧ Below b w wr ∧ blankEnd r0 (bs s) i = blankEnd r (bs s) k) (fun t _ => s.size - (intOf t).toNat)
  case atStart => exact ⟨i, r0, hi, rfl, hc, hf, Below.refl _ _, rfl⟩
  case round =>
    obtain ⟨k, r, hk, rfl, hcr, hfr, hb, he⟩ := hrel
    have He := Lib.hid he
    clear he hc hf
    by_cases hlt : k < s.size
    · have hg := bs_get s k hlt
      by_cases hp : (remB r (s[k].toNat : Int) || blankB (s[k].toNat : Int)) = true
      · have HE2 : Hid (blankEnd r (bs s) k = blankEnd (remB r (s[k].toNat : Int)) (bs s) (k + 1)) := (blankEnd_go (by rw [bs_length]; exact hlt) (by rw [hg]; exact hp)).trans (by rw [hg])
        clear hg
        go_wp2_with (go_at_call 42; refine (blank1_any _ _ _ _ hcr hfr).mono ?_; rintro e w' ⟨rfl, rfl⟩)
        go_roundw
        case rel => exact ⟨k + 1, remB r (s[k].toNat : Int), by omega, by go_num, by go_simp, by go_simp, hb.setCell (Nat.le_refl _) _, He.out.trans HE2.out⟩
        case measure => simp [intOf]; omega
      · have hp' : (remB r (s[k].toNat : Int) || blankB (s[k].toNat : Int)) = false := by simpa using hp
        clear hp
        have HE : Hid (blankEnd r (bs s) k = k) := blankEnd_stop (by rw [bs_length]; exact hlt) (by rw [hg]; exact hp')
        clear hg
        go_wp2_with (go_at_call 42; refine (blank1_any _ _ _ _ hcr hfr).mono ?_; rintro e w' ⟨rfl, rfl⟩)
        go_ret
        exact ⟨lret_int (by rw [He.out, HE.out]), hb.setCell (Nat.le_refl _) _⟩
    · have HE : Hid (blankEnd r (bs s) k = k) := blankEnd_end (by rw [bs_length]; omega)
      go_wp2_with fail
      go_ret
      exact ⟨lret_int (by rw [He.out, HE.out]), hb⟩
set_option maxHeartbeats 400000 in
theorem blanks_any (s : ByteArray) (i : Nat) (w : World) (hs : s.size ≤ maxLen) (hi : i ≤ s.size) :
    Calls Tryd.prog 30 #[.string s, .int .i64 i] w fun e w' => e = .returned (.int .i64 (blankEnd false (bs s) i)) ∧ Below w.heap.size w w' := by
  go_enter Tryd.func30, Tryd.ntmps30
  go_wp2_with (go_at_call 41; refine (take_blank s i _ false _ hs hi ?_ ?_).mono ?_; (go_simp); (go_simp); rintro e w' ⟨rfl, hb⟩)
  go_ret
  exact ⟨rfl, ((Below.refl _ _).alloc (Nat.le_refl _) _).trans hb⟩
end Go.Proofs.YtjmbkkpglkbppaaDoor
