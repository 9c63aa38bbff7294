/- The answer's Same at spans; the document's example for package span holds. -/
import Derived.Test.YtlifkfihpmkffaaSpC
import Derived.Deep.QuietTactic
import Derived.BigQuiet
namespace Go.Proofs.Ytlifkfihpmkffaa
open Go.RowKit

set_option maxHeartbeats 1000000 in
/-- Where all are the same, Same says so. -/
theorem same1_yes (w : World) (v v' : Value) (l : List Sp) (h1 : RdS w v l) (h2 : RdS w v' l) (hm : l.length ≤ 1000000) :
    Calls Try.prog 13 #[v, v'] w fun e w' => e = .returned (.bool true) ∧ Below w.heap.size w w' := by
  by_cases h0 : 0 < l.length
  · obtain ⟨b, off, cap, rfl, hnc, hcm, hlt, hc⟩ := h1.form h0
    obtain ⟨b', off', cap', rfl, hnc', hcm', hlt', hc'⟩ := h2.form h0
    have hb : ((l.length : Int) != (l.length : Int)) = false := by simp
    have hcl := Lib.hid hc
    have hcl' := Lib.hid hc'
    clear h1 h2 hc hc'
    go_enter Try.func13, Try.ntmps13
    go_wp2_with fail
    go_loopw [5] (fun t wr => ∃ k : Nat, k ≤ l.length ∧ t = .int .i64 k ∧ Below w.heap.size w wr) (fun t _ => l.length - (intOf t).toNat)
    case atStart => exact ⟨0, Nat.zero_le _, rfl, Below.refl _ _⟩
    case round =>
      obtain ⟨k, hk, rfl, hbw⟩ := hrel
      by_cases hkl : k < l.length
      · obtain ⟨c0, c1⟩ := hcl.out k hkl
        obtain ⟨d0, d1⟩ := hcl'.out k hkl
        have e0 := (hbw.cell (p := ⟨b, off + k * 2, none⟩) hlt).trans c0
        have e1 := (hbw.cell (p := ⟨b, off + k * 2 + 1, none⟩) hlt).trans c1
        have g0 := (hbw.cell (p := ⟨b', off' + k * 2, none⟩) hlt').trans d0
        have g1 := (hbw.cell (p := ⟨b', off' + k * 2 + 1, none⟩) hlt').trans d1
        clear c0 c1 d0 d1
        generalize l[k] = t at *
        obtain ⟨t0, t1⟩ := t
        go_wp2_with fail
        go_quiet (fail)
        go_wp2_with fail
        go_roundw
        case rel => exact ⟨k + 1, by omega, by go_num, below_drewN hbw _⟩
        case measure => simp [intOf]; omega
      · go_wp2_with fail
        go_ret
        exact ⟨rfl, hbw⟩
  · obtain ⟨A, c, rfl⟩ : ∃ A c, v = .slice A 0 c := by
      rcases h1.2 with ⟨h0, A, c, rfl⟩ | ⟨b, off, cap, rfl, _⟩
      · exact ⟨A, c, rfl⟩
      · exact ⟨_, _, by rw [show l.length = 0 by omega]⟩
    obtain ⟨A', c', rfl⟩ : ∃ A c, v' = .slice A 0 c := by
      rcases h2.2 with ⟨h0, A, c, rfl⟩ | ⟨b, off, cap, rfl, _⟩
      · exact ⟨A, c, rfl⟩
      · exact ⟨_, _, by rw [show l.length = 0 by omega]⟩
    clear h1 h2
    go_enter Try.func13, Try.ntmps13
    go_wp2_with fail
    refine wp_loop_rounds 1 ?_
    rw [rounds_succ]
    go_wp2_with fail
    go_ret
    exact ⟨rfl, Below.refl _ _⟩

theorem exMerge : Canon [(0, 1), (2, 7)] ∧ ∀ i, Cov i [(0, 1), (2, 7)] ↔ Cov i [(2, 4), (0, 1), (3, 6), (6, 7)] := by
  refine ⟨⟨by simp, by simp⟩, fun i => ?_⟩
  simp only [Cov.cons, Cov.nil, or_false]
  omega
set_option maxHeartbeats 1000000 in
set_option maxRecDepth 100000 in
theorem awake1 (w : World) : Calls Try.prog 12 #[] w fun e w' => e = .returned (.bool true) ∧ Below w.heap.size w w' := by
  have hr : RdS (w.alloc (.cells #[.int .i64 2, .int .i64 4, .int .i64 0, .int .i64 1, .int .i64 3, .int .i64 6, .int .i64 6, .int .i64 7] 25)) (.slice (some ⟨w.heap.size, 0, none⟩) 4 4) [(2, 4), (0, 1), (3, 6), (6, 7)] := by
    refine ⟨rfl, .inr ⟨w.heap.size, 0, 4, rfl, Nat.le_refl _, by unfold maxLen; omega, by simp, fun j u hu => ?_⟩⟩
    have := cells_new w (spCells [(2, 4), (0, 1), (3, 6), (6, 7)]) 25 j u hu
    rw [Addr.add_lit] at this
    exact this
  go_enter Try.func12, Try.ntmps12
  go_wp2_with fail
  refine (merge_any _ _ _ hr (by simp)).mono ?_
  rintro e w1 ⟨v, M, rfl, hown, hc, hcov, hb⟩
  have hM : M = [(0, 1), (2, 7)] := Canon.unique _ _ hc exMerge.1 fun i => (hcov i).trans (exMerge.2 i).symm
  subst hM
  have hb' : Below w.heap.size w w1 := ((Below.refl _ _).alloc (Nat.le_refl _) _).trans (hb.mono (by simp))
  have hz := hb'.size
  have r1 : RdS (w1.alloc (.cells #[.int .i64 0, .int .i64 1, .int .i64 2, .int .i64 7] 25)) v [(0, 1), (2, 7)] := Rd.alloc (RdS.of_own hown) _
  have r2 : RdS (w1.alloc (.cells #[.int .i64 0, .int .i64 1, .int .i64 2, .int .i64 7] 25)) (.slice (some ⟨w1.heap.size, 0, none⟩) 2 2) [(0, 1), (2, 7)] := by
    refine ⟨rfl, .inr ⟨w1.heap.size, 0, 2, rfl, Nat.le_refl _, by unfold maxLen; omega, by simp, fun j u hu => ?_⟩⟩
    have := cells_new w1 (spCells [(0, 1), (2, 7)]) 25 j u hu
    rw [Addr.add_lit] at this
    exact this
  clear hr hown hcov hc
  go_wp2_with fail
  refine (same1_yes _ _ _ _ r1 r2 (by simp)).mono ?_
  rintro e w2 ⟨rfl, hb2⟩
  go_wp2_with fail
  go_ret
  exact ⟨rfl, (hb'.alloc hz _).trans (hb2.mono (by simp; omega))⟩
end Go.Proofs.Ytlifkfihpmkffaa
