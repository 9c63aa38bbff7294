/- The walk of the law SpanWithin, out of the contracts of what it calls. -/
import Derived.Test.YtlifkfihpmkffaaSpQ
import Derived.Test.YtlifkfihpmkffaaSpX
import Derived.Test.YtlifkfihpmkffaaSpD
import Derived.Test.YtlifkfihpmkffaaSpU
import Derived.Test.YtlifkfihpmkffaaSpJ
import Derived.Deep.RegionHeld3
namespace Go.Proofs.Ytlifkfihpmkffaa
open Go.RowKit

theorem inB_take (m : List Sp) (s : Sp) (j : Nat) (hj : j < m.length) : inB (m.take (j + 1)) s = (inB (m.take j) s || (decide (m[j].1 ≤ s.1) && decide (s.2 ≤ m[j].2))) := by
  unfold inB
  rw [List.take_succ_eq_append_getElem hj, List.any_append]
  simp
theorem withinB_take (l m : List Sp) (k : Nat) (hk : k < l.length) : withinB (l.take (k + 1)) m = (withinB (l.take k) m && inB m l[k]) := by
  unfold withinB
  rw [List.take_succ_eq_append_getElem hk, List.all_append]
  simp
set_option maxHeartbeats 8000000 in
set_option maxRecDepth 100000 in
theorem spanWithin_walk (w : World) (va vb : Value) (ha : ArgS w va) (hb : ArgS w vb) :
    Calls Try.prog 5 #[va, vb] w fun e w' => e = .returned (.bool true) ∧ Below w.heap.size w w' := by
  obtain ⟨la, ha⟩ := ha
  obtain ⟨lb, hb⟩ := hb
  obtain ⟨Aa, ca, rfl⟩ := ha.slice
  obtain ⟨Ab, cb, rfl⟩ := hb.slice
  by_cases hbig : la.length ≤ 30 ∧ lb.length ≤ 30
  · obtain ⟨i1, i2⟩ := hbig
    have i1 : ¬ (30 : Int) < (la.length : Int) := by omega
    have i2 : ¬ (30 : Int) < (lb.length : Int) := by omega
    have Ha := Lib.hid ha
    have Hb := Lib.hid hb
    clear ha hb
    go_enter Try.func5, Try.ntmps5
    go_wp2_with fail
    refine (rmerge_all w _ la Ha.out (by omega)).mono ?_
    rintro e w1 ⟨v1, X, rfl, own1, can1, cov1, b1⟩
    have hX : X.length ≤ 30 := by have := canon_len _ _ can1 cov1; omega
    have C1 := Lib.hid can1
    have V1 := Lib.hid cov1
    have RX1 : Hid (RdS w1 v1 X) := Lib.hid (RdS.of_own own1)
    have Hb1 : Hid (RdS w1 (.slice Ab lb.length cb) lb) := Lib.hid (Rd.below Hb.out b1)
    obtain ⟨A1, c1, rfl⟩ := RX1.out.slice
    clear own1 can1 cov1
    go_wp2_with fail
    refine (rmerge_all w1 _ lb Hb1.out (by omega)).mono ?_
    rintro e w2 ⟨v2, Y, rfl, own2, can2, cov2, b2⟩
    have hY : Y.length ≤ 30 := by have := canon_len _ _ can2 cov2; omega
    have C2 := Lib.hid can2
    have V2 := Lib.hid cov2
    have RX2 : Hid (RdS w2 (.slice A1 X.length c1) X) := Lib.hid (Rd.below RX1.out b2)
    have RY2 : Hid (RdS w2 v2 Y) := Lib.hid (RdS.of_own own2)
    obtain ⟨A2, c2, rfl⟩ := RY2.out.slice
    have B2 : Hid (Below w.heap.size w w2) := Lib.hid (b1.trans (b2.mono b1.size))
    clear own2 can2 cov2 b1 b2 RX1 Hb1
    have Ha2 : Hid (RdS w2 (.slice Aa la.length ca) la) := Lib.hid (Rd.below Ha.out B2.out)
    have Hb2 : Hid (RdS w2 (.slice Ab lb.length cb) lb) := Lib.hid (Rd.below Hb.out B2.out)
    clear Ha Hb
    go_wp2_with fail
    go_loopw [7, 8] (fun t7 t8 wr => ∃ k : Nat, k ≤ X.length ∧ t8 = .int .i64 k ∧ t7 = .bool (withinB (X.take k) Y) ∧ Calm w2 wr) (fun _ t _ => X.length - (intOf t).toNat)
    case atStart => exact ⟨0, Nat.zero_le _, rfl, rfl, Calm.refl _⟩
    case round =>
      obtain ⟨k, hk, rfl, rfl, hcalm⟩ := hrel
      by_cases hkl : k < X.length
      · obtain ⟨b, off, cap, hv, _, _, hlt, hc⟩ := RX2.out.form (by omega)
        injection hv with hA _ hcc
        subst hA; subst hcc
        obtain ⟨p0, p1⟩ := hc k hkl
        clear hc
        have hws := withinB_take X Y k hkl
        generalize X[k] = s at *
        obtain ⟨s1, s2⟩ := s
        generalize withinB (X.take k) Y = r at *
        have Hws := Lib.hid hws
        clear hws
        obtain ⟨wo, rfl⟩ : ∃ wo : World, wo = wr := ⟨_, rfl⟩
        go_wp2_with fail
        go_loopw [9, 10] (fun t9 t10 wr => ∃ j : Nat, j ≤ Y.length ∧ t10 = .int .i64 j ∧ t9 = .bool (inB (Y.take j) (s1, s2)) ∧ Calm w2 wr) (fun _ t _ => Y.length - (intOf t).toNat)
        case atStart => exact ⟨0, Nat.zero_le _, rfl, rfl, hcalm⟩
        case round =>
          clear hcalm
          obtain ⟨j, hj, rfl, rfl, hcalm⟩ := hrel
          have e0 := (hcalm.cell _).trans p0
          have e1 := (hcalm.cell _).trans p1
          clear p0 p1
          by_cases hjl : j < Y.length
          · obtain ⟨b', off', cap', hv, _, _, hlt', hc⟩ := RY2.out.form (by omega)
            injection hv with hA _ hcc
            subst hA; subst hcc
            obtain ⟨q0, q1⟩ := hc j hjl
            have f0 := (hcalm.cell _).trans q0
            have f1 := (hcalm.cell _).trans q1
            clear hc q0 q1
            have hin := inB_take Y (s1, s2) j hjl
            generalize Y[j] = t at *
            obtain ⟨t1, t2⟩ := t
            generalize inB (Y.take j) (s1, s2) = q at *
            have Hin := Lib.hid hin
            clear hin
            have hcase : q = true ∨ (q = false ∧ ¬ t1 ≤ s1) ∨ (q = false ∧ t1 ≤ s1 ∧ ¬ s2 ≤ t2) ∨ (q = false ∧ t1 ≤ s1 ∧ s2 ≤ t2) := by
              cases q <;> simp <;> omega
            rcases hcase with rfl | ⟨rfl, g1⟩ | ⟨rfl, g1, g2⟩ | ⟨rfl, g1, g2⟩
            · go_wp2_with fail
              go_quiet (fail)
              go_wp2_with fail
              go_roundw
              case rel => exact ⟨j + 1, by omega, by go_num, by rw [Hin.out]; simp, hcalm.drewN _⟩
              case measure => simp [intOf]; omega
            · have d1 : decide (t1 ≤ s1) = false := decide_eq_false g1
              go_wp2_with fail
              go_quiet (fail)
              go_wp2_with fail
              go_roundw
              case rel => exact ⟨j + 1, by omega, by go_num, by rw [Hin.out]; simp; omega, hcalm.drewN _⟩
              case measure => simp [intOf]; omega
            · have d1 : decide (t1 ≤ s1) = true := decide_eq_true g1
              have d2 : decide (s2 ≤ t2) = false := decide_eq_false g2
              go_wp2_with fail
              go_quiet (fail)
              go_wp2_with fail
              go_roundw
              case rel => exact ⟨j + 1, by omega, by go_num, by rw [Hin.out]; simp; omega, hcalm.drewN _⟩
              case measure => simp [intOf]; omega
            · have d1 : decide (t1 ≤ s1) = true := decide_eq_true g1
              have d2 : decide (s2 ≤ t2) = true := decide_eq_true g2
              go_wp2_with fail
              go_quiet (fail)
              go_wp2_with fail
              go_roundw
              case rel => exact ⟨j + 1, by omega, by go_num, by rw [Hin.out]; simp [g1, g2], hcalm.drewN _⟩
              case measure => simp [intOf]; omega
          · have hje : inB (Y.take j) (s1, s2) = inB Y (s1, s2) := by rw [show j = Y.length by omega, List.take_length]
            rw [hje]
            clear hje e0 e1
            generalize inB Y (s1, s2) = q at *
            cases r
            all_goals
              go_wp2_with fail
              go_roundw
              case rel => exact ⟨k + 1, by omega, by go_num, by rw [Hws.out]; simp, hcalm⟩
              case measure => simp [intOf]; omega
      · have hke : withinB (X.take k) Y = withinB X Y := by rw [show k = X.length by omega, List.take_length]
        rw [hke]
        clear hke
        generalize hr : withinB X Y = r at *
        have HR := Lib.hid hr
        clear hr
        obtain ⟨wo, rfl⟩ : ∃ wo : World, wo = wr := ⟨_, rfl⟩
        have hao : Hid (RdS wo (.slice Aa la.length ca) la) := Lib.hid (hcalm.rd Ha2.out)
        have hbo : Hid (RdS wo (.slice Ab lb.length cb) lb) := Lib.hid (hcalm.rd Hb2.out)
        have bo : Hid (Below w.heap.size w wo) := Lib.hid (B2.out.trans hcalm.below)
        clear hcalm RX2 RY2
        go_wp2_with fail
        go_loopw [11] (fun t11 wr => ∃ i : Nat, i ≤ la.length ∧ t11 = .int .i64 i ∧ Below w.heap.size w wr ∧ Below wo.heap.size wo wr) (fun t _ => la.length - (intOf t).toNat)
        case atStart => exact ⟨0, Nat.zero_le _, rfl, bo.out, Below.refl _ _⟩
        case round =>
          obtain ⟨i, hi, rfl, bw, bwo⟩ := hrel
          have BW := Lib.hid bw
          have BWO := Lib.hid bwo
          clear bw bwo
          by_cases hil : i < la.length ∧ i < lb.length
          · obtain ⟨il1, il2⟩ := hil
            obtain ⟨b, off, cap, hv, _, _, hlt, hc⟩ := (RdS.below hao.out BWO.out).form (by omega)
            injection hv with hA _ hcc
            subst hA; subst hcc
            obtain ⟨e0, e1⟩ := hc i il1
            clear hc
            obtain ⟨b', off', cap', hv, _, _, hlt', hc⟩ := (RdS.below hbo.out BWO.out).form (by omega)
            injection hv with hA _ hcc
            subst hA; subst hcc
            obtain ⟨f0, f1⟩ := hc i il2
            clear hc
            generalize la[i] = s at *
            generalize lb[i] = t at *
            obtain ⟨s1, s2⟩ := s
            obtain ⟨t1, t2⟩ := t
            have d1 : decide (i < la.length) = true := decide_eq_true il1
            have d2 : decide (i < lb.length) = true := decide_eq_true il2
            have d3 : (i : Int) < (la.length : Int) := by omega
            have d4 : (i : Int) < (lb.length : Int) := by omega
            obtain ⟨J, hJ⟩ : ∃ J, joinSp (s1, s2) (t1, t2) = J := ⟨_, rfl⟩
            have kj : ∀ W, Below wr.heap.size wr W → ∀ f, f = 23 ∨ f = 24 → Calls Try.prog f #[.agg #[.int .i64 s1, .int .i64 s2], .agg #[.int .i64 t1, .int .i64 t2]] W fun e w' => e = .returned (.agg #[.int .i64 J.1, .int .i64 J.2]) ∧ Below wr.heap.size wr w' ∧
                w'.cell? ⟨b, off + i * 2, none⟩ = some (.int .i64 s1) ∧ w'.cell? ⟨b, off + i * 2 + 1, none⟩ = some (.int .i64 s2) ∧ w'.cell? ⟨b', off' + i * 2, none⟩ = some (.int .i64 t1) ∧ w'.cell? ⟨b', off' + i * 2 + 1, none⟩ = some (.int .i64 t2) := by
              intro W hW f hf
              have hfin : ∀ e w', JoinPost (s1, s2) (t1, t2) W e w' → e = .returned (.agg #[.int .i64 J.1, .int .i64 J.2]) ∧ Below wr.heap.size wr w' ∧
                w'.cell? ⟨b, off + i * 2, none⟩ = some (.int .i64 s1) ∧ w'.cell? ⟨b, off + i * 2 + 1, none⟩ = some (.int .i64 s2) ∧ w'.cell? ⟨b', off' + i * 2, none⟩ = some (.int .i64 t1) ∧ w'.cell? ⟨b', off' + i * 2 + 1, none⟩ = some (.int .i64 t2) := by
                rintro e w' ⟨he, hb⟩
                have hB := hW.trans (hb.mono hW.size)
                rw [hJ] at he
                exact ⟨he, hB, (hB.cell (p := ⟨b, off + i * 2, none⟩) hlt).trans e0, (hB.cell (p := ⟨b, off + i * 2 + 1, none⟩) hlt).trans e1, (hB.cell (p := ⟨b', off' + i * 2, none⟩) hlt').trans f0, (hB.cell (p := ⟨b', off' + i * 2 + 1, none⟩) hlt').trans f1⟩
              rcases hf with rfl | rfl
              · exact (join_any s1 s2 t1 t2 W).mono hfin
              · exact (rjoin_any s1 s2 t1 t2 W).mono hfin
            have KJ := Lib.hid kj
            clear kj hJ
            go_wp2_with fail
            go_region_held3 (fun w' => Below wr.heap.size wr w' ∧ w'.cell? ⟨b, off + i * 2, none⟩ = some (.int .i64 s1) ∧ w'.cell? ⟨b, off + i * 2 + 1, none⟩ = some (.int .i64 s2) ∧ w'.cell? ⟨b', off' + i * 2, none⟩ = some (.int .i64 t1) ∧ w'.cell? ⟨b', off' + i * 2 + 1, none⟩ = some (.int .i64 t2))
              (first
                | exact ⟨(Below.refl _ _).drew, e0, e1, f0, f1⟩
                | (go_split_ands; refine ⟨?_, ?_, ?_, ?_, ?_⟩ <;> assumption))
              (first
                | (go_at_call 23; refine (KJ.out _ (by go_split_ands; assumption) _ (.inl rfl)).mono ?_; rintro e w' ⟨rfl, hbx, z0, z1, z2, z3⟩)
                | (go_at_call 24; refine (KJ.out _ (by go_split_ands; assumption) _ (.inr rfl)).mono ?_; rintro e w' ⟨rfl, hbx, z0, z1, z2, z3⟩))
            all_goals
              go_wp2_with fail
              go_roundw
              case rel => exact ⟨i + 1, by omega, by go_num, BW.out.trans (hbx.mono BW.out.size), BWO.out.trans (hbx.mono BWO.out.size)⟩
              case measure => simp [intOf]; omega
          · have hcase : (¬ i < la.length) ∨ (i < la.length ∧ ¬ i < lb.length) := by omega
            have hae : Hid (RdS wr (.slice Aa la.length ca) la) := Lib.hid (RdS.below hao.out BWO.out)
            have hbe : Hid (RdS wr (.slice Ab lb.length cb) lb) := Lib.hid (RdS.below hbo.out BWO.out)
            clear hil
            rcases hcase with h1 | ⟨h1, h2⟩
            · have d1 : decide (i < la.length) = false := decide_eq_false h1
              go_wp2_with fail
              refine (within_any wr _ _ la lb hae.out hbe.out (by omega) (by omega)).mono ?_
              rintro e w5 ⟨A5, B5, q1, q2, q3, q4, rfl, b5⟩
              have hA5 : A5 = X := Canon.unique _ _ q1 C1.out fun i => (q2 i).trans (V1.out i).symm
              have hB5 : B5 = Y := Canon.unique _ _ q3 C2.out fun i => (q4 i).trans (V2.out i).symm
              rw [hA5, hB5, HR.out]
              clear hA5 hB5 q1 q2 q3 q4
              cases r
              all_goals
                go_wp2_with (go_at_call 12; refine (awake1 _).mono ?_; rintro e w6 ⟨rfl, b6⟩)
                go_ret
                have s1 := BW.out.size
                have s2 := b5.size
                exact ⟨rfl, BW.out.trans ((b5.mono s1).trans (b6.mono (by omega)))⟩
            · have d1 : decide (i < la.length) = true := decide_eq_true h1
              have d2 : decide (i < lb.length) = false := decide_eq_false h2
              go_wp2_with fail
              refine (within_any wr _ _ la lb hae.out hbe.out (by omega) (by omega)).mono ?_
              rintro e w5 ⟨A5, B5, q1, q2, q3, q4, rfl, b5⟩
              have hA5 : A5 = X := Canon.unique _ _ q1 C1.out fun i => (q2 i).trans (V1.out i).symm
              have hB5 : B5 = Y := Canon.unique _ _ q3 C2.out fun i => (q4 i).trans (V2.out i).symm
              rw [hA5, hB5, HR.out]
              clear hA5 hB5 q1 q2 q3 q4
              cases r
              all_goals
                go_wp2_with (go_at_call 12; refine (awake1 _).mono ?_; rintro e w6 ⟨rfl, b6⟩)
                go_ret
                have s1 := BW.out.size
                have s2 := b5.size
                exact ⟨rfl, BW.out.trans ((b5.mono s1).trans (b6.mono (by omega)))⟩
  · have hor : (30 : Int) < (la.length : Int) ∨ (¬ (30 : Int) < (la.length : Int) ∧ (30 : Int) < (lb.length : Int)) := by omega
    clear hbig ha hb
    rcases hor with h | ⟨h, h'⟩
    all_goals
      go_enter Try.func5, Try.ntmps5
      go_wp2_with (go_at_call 12; refine (awake1 _).mono ?_; rintro e w' ⟨rfl, hb⟩)
      go_ret
      exact ⟨rfl, hb⟩
end Go.Proofs.Ytlifkfihpmkffaa
