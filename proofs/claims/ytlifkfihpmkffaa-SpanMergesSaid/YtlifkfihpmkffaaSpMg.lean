/- The walk of the law SpanMerges, out of the contracts of what it calls. -/
import Derived.Test.YtlifkfihpmkffaaSpQ
import Derived.Test.YtlifkfihpmkffaaSpW
import Derived.Test.YtlifkfihpmkffaaSpD
import Derived.Test.YtlifkfihpmkffaaSpU
namespace Go.Proofs.Ytlifkfihpmkffaa
open Go.RowKit

/-- The first k spans lie in a text of n bytes. -/
def okTo (n : Int) (l : List Sp) (k : Nat) : Bool := !(l.take k).any (wrongSp n)
theorem okTo_succ (n : Int) (l : List Sp) (k : Nat) (hk : k < l.length) : okTo n l (k + 1) = (okTo n l k && !wrongSp n l[k]) := by
  unfold okTo
  rw [List.take_succ_eq_append_getElem hk, List.any_append]
  simp
set_option maxHeartbeats 4000000 in
set_option maxRecDepth 100000 in
theorem spanMerges_walk (w : World) (v : Value) (n : Int) (hv : ArgS w v) :
    Calls Try.prog 3 #[v, .int .i64 n] w fun e w' => e = .returned (.bool true) ∧ Below w.heap.size w w' := by
  obtain ⟨l, h⟩ := hv
  obtain ⟨A, c, rfl⟩ := h.slice
  by_cases hbig : l.length ≤ 60
  · have i1 : ¬ (60 : Int) < (l.length : Int) := by omega
    have H := Lib.hid h
    clear h
    go_enter Try.func3, Try.ntmps3
    go_wp2_with fail
    go_loopw [5, 6] (fun t5 t6 wr => ∃ k : Nat, k ≤ l.length ∧ t6 = .int .i64 k ∧ t5 = .bool (okTo n l k) ∧ Calm w wr) (fun _ t _ => l.length - (intOf t).toNat)
    case atStart => exact ⟨0, Nat.zero_le _, rfl, rfl, Calm.refl _⟩
    case round =>
      obtain ⟨k, hk, rfl, rfl, hcalm⟩ := hrel
      by_cases hkl : k < l.length
      · obtain ⟨b, off, cap, hv, _, _, hlt, hc⟩ := H.out.form (by omega)
        injection hv with hA _ hcc
        subst hA; subst hcc
        obtain ⟨c0, c1⟩ := hc k hkl
        have e0 := (hcalm.cell _).trans c0
        have e1 := (hcalm.cell _).trans c1
        clear hc c0 c1
        have hs := okTo_succ n l k hkl
        generalize l[k] = s at *
        obtain ⟨x, y⟩ := s
        generalize okTo n l k = r at *
        have hw : wrongSp n (x, y) = (decide (x < 0) || decide (n < y) || decide (y < x)) := rfl
        rw [hw] at hs
        have HS := Lib.hid hs
        clear hs hw
        have hcase : r = false ∨ (r = true ∧ x < 0) ∨ (r = true ∧ ¬ x < 0 ∧ n < y) ∨ (r = true ∧ ¬ x < 0 ∧ ¬ n < y ∧ y < x) ∨ (r = true ∧ ¬ x < 0 ∧ ¬ n < y ∧ ¬ y < x) := by
          cases r <;> simp <;> omega
        rcases hcase with rfl | ⟨rfl, g1⟩ | ⟨rfl, g1, g2⟩ | ⟨rfl, g1, g2, g3⟩ | ⟨rfl, g1, g2, g3⟩
        · go_wp2_with fail
          go_quiet (fail)
          go_wp2_with fail
          go_roundw
          case rel => exact ⟨k + 1, by omega, by go_num, by rw [HS.out]; simp, hcalm.drewN _⟩
          case measure => simp [intOf]; omega
        · have d1 : decide (0 ≤ x) = false := decide_eq_false (by omega)
          go_wp2_with fail
          go_quiet (fail)
          go_wp2_with fail
          go_roundw
          case rel => exact ⟨k + 1, by omega, by go_num, by rw [HS.out]; simp [g1], hcalm.drewN _⟩
          case measure => simp [intOf]; omega
        · have d1 : decide (0 ≤ x) = true := decide_eq_true (by omega)
          have d2 : decide (y ≤ n) = false := decide_eq_false (by omega)
          go_wp2_with fail
          go_quiet (fail)
          go_wp2_with fail
          go_roundw
          case rel => exact ⟨k + 1, by omega, by go_num, by rw [HS.out]; simp [g2], hcalm.drewN _⟩
          case measure => simp [intOf]; omega
        · have d1 : decide (0 ≤ x) = true := decide_eq_true (by omega)
          have d2 : decide (y ≤ n) = true := decide_eq_true (by omega)
          have d3 : decide (x ≤ y) = false := decide_eq_false (by omega)
          go_wp2_with fail
          go_quiet (fail)
          go_wp2_with fail
          go_roundw
          case rel => exact ⟨k + 1, by omega, by go_num, by rw [HS.out]; simp [g3], hcalm.drewN _⟩
          case measure => simp [intOf]; omega
        · have d1 : decide (0 ≤ x) = true := decide_eq_true (by omega)
          have d2 : decide (y ≤ n) = true := decide_eq_true (by omega)
          have d3 : decide (x ≤ y) = true := decide_eq_true (by omega)
          go_wp2_with fail
          go_quiet (fail)
          go_wp2_with fail
          go_roundw
          case rel => exact ⟨k + 1, by omega, by go_num, by rw [HS.out]; simp [g1, g2, g3], hcalm.drewN _⟩
          case measure => simp [intOf]; omega
      · have hke : k = l.length := by omega
        have hok : okTo n l k = !l.any (wrongSp n) := by unfold okTo; rw [hke, List.take_length]
        rw [hok]
        clear hok
        subst hke
        obtain ⟨r, hr⟩ : ∃ r, (!l.any (wrongSp n)) = r := ⟨_, rfl⟩
        rw [hr]
        have HR := Lib.hid hr
        clear hr
        have hr0 : Hid (RdS wr (.slice A l.length c) l) := Lib.hid (hcalm.rd H.out)
        have hb0 : Below w.heap.size w wr := hcalm.below
        go_wp2_with fail
        refine (merge_any wr _ l hr0.out (by omega)).mono ?_
        rintro e w1 ⟨v1, M1, rfl, own1, can1, cov1, b1⟩
        have hr1 : Hid (RdS w1 (.slice A l.length c) l) := Lib.hid (Rd.below hr0.out b1)
        have rm1 : Hid (RdS w1 v1 M1) := Lib.hid (RdS.of_own own1)
        have C1 := Lib.hid can1
        have V1 := Lib.hid cov1
        clear own1 can1 cov1
        go_wp2_with fail
        refine (rmerge_all w1 _ l hr1.out (by omega)).mono ?_
        rintro e w2 ⟨v2, M2, rfl, own2, can2, cov2, b2⟩
        have hM : M2 = M1 := Canon.unique _ _ can2 C1.out fun i => (cov2 i).trans (V1.out i).symm
        subst hM
        have hr2 : Hid (RdS w2 (.slice A l.length c) l) := Lib.hid (Rd.below hr1.out b2)
        have rm2 : Hid (RdS w2 v1 M2) := Lib.hid (Rd.below rm1.out b2)
        have rn2 : Hid (RdS w2 v2 M2) := Lib.hid (RdS.of_own own2)
        have hM2 : M2.length ≤ 1000000 := by have := canon_len _ _ C1.out V1.out; omega
        clear own2 can2 cov2
        go_wp2_with fail
        refine (same1_yes w2 v1 v2 M2 rm2.out rn2.out hM2).mono ?_
        rintro e w3 ⟨rfl, b3⟩
        have hr3 : Hid (RdS w3 (.slice A l.length c) l) := Lib.hid (Rd.below hr2.out b3)
        go_wp2_with fail
        have hri := right_any n w3 _ l hr3.out (by omega)
        rw [HR.out] at hri
        refine hri.mono ?_
        rintro e w4 ⟨rfl, b4⟩
        cases r
        all_goals
          go_wp2_with (go_at_call 12; refine (awake1 _).mono ?_; rintro e w5 ⟨rfl, b5⟩)
          go_ret
          have s0 := hb0.size
          have s1 := b1.size
          have s2 := b2.size
          have s3 := b3.size
          have s4 := b4.size
          exact ⟨rfl, hb0.trans ((b1.mono s0).trans ((b2.mono (by omega)).trans ((b3.mono (by omega)).trans ((b4.mono (by omega)).trans (b5.mono (by omega))))))⟩
  · have i1 : (60 : Int) < (l.length : Int) := by omega
    clear h
    go_enter Try.func3, Try.ntmps3
    go_wp2_with (go_at_call 12; refine (awake1 _).mono ?_; rintro e w' ⟨rfl, hb⟩)
    go_ret
    exact ⟨rfl, hb⟩
end Go.Proofs.Ytlifkfihpmkffaa
