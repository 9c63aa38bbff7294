/- Texts of one proof, one behind the other. -/
import Derived.Test.YtbnpmeaaaecciaaMgUnifyParts20
import Derived.Test.YtbnpmeaaaecciaaMgUnifyParts17
import Derived.Test.YtbnpmeaaaecciaaMgUnifyParts8
import Derived.Test.YtbnpmeaaaecciaaShKs
import Derived.Test.YtbnpmeaaaecciaaMgUnifyParts25
/- The answer's graph: Vars. -/
namespace Go.Proofs.Ytbnpmeaaaecciaa
open Go.RowKit Go.Shelf
attribute [local go_sem ↓] builtin_app
set_option maxRecDepth 100000
theorem ints_at (L : List Int) (i : Nat) (a : Int) (h : L[i]? = some a) : (ints L)[i]? = some (.int .i64 a) := by simp [ints, h]
theorem Rd.int_at {w : World} {A : Option Addr} {n c : Nat} {L : List Int} (h : Rd w 1 (.slice A n c) n (ints L)) (i : Nat) (a : Int) (hi : L[i]? = some a) : ∃ b off, A = some ⟨b, off, none⟩ ∧ b < w.heap.size ∧ w.cell? ⟨b, off + i, none⟩ = some (.int .i64 a) := by
  have hin : i < n := by have h1 := h.1; rw [ints_len] at h1; have := (List.getElem?_eq_some_iff.1 hi).1; omega
  obtain ⟨b, off, cap, hv, _, _, hlt, hc⟩ := h.2.resolve_left (by rintro ⟨h, _⟩; omega)
  injection hv with hA _ _
  exact ⟨b, off, hA, hlt, hc i _ (ints_at L i a hi)⟩
theorem ints_take (L : List Int) (j : Nat) : ints (L.take j) = (ints L).take j := by simp [ints, List.map_take]
theorem ints_drop (L : List Int) (j : Nat) : ints (L.drop j) = (ints L).drop j := by simp [ints, List.map_drop]
set_option maxHeartbeats 8000000 in
theorem rvars11o (w : World) (v : Value) (M : List Rm) (hM : Rd w 4 v M.length (M.flatMap rmC)) (hl : M.length ≤ 100000) :
    Calls Try.prog 15 #[v] w fun e w' => ∃ v', e = .returned v' ∧ w'.ownsRow w.heap.size 3 1 v' (vsort (gM M)).length (ints (vsort (gM M))) ∧ Below w.heap.size w w' := by
  obtain ⟨A, c, rfl⟩ := hM.form
  obtain ⟨q, hq⟩ : ∃ q, M.length = q := ⟨_, rfl⟩
  rw [hq] at hl ⊢
  have hgl : (gM M).length = q := by simp [gM, hq]
  have HM := Lib.hid hM
  have HQ := Lib.hid (And.intro hq hgl)
  clear hM hq hgl
  go_enter Try.func15, Try.ntmps15
  go_wp2_with fail
  go_loopw [3, 4] (fun t3 t4 wr => ∃ j : Nat, j ≤ q ∧ t4 = .int .i64 j ∧ wr.ownsRow w.heap.size 3 1 t3 (vsort ((gM M).take j)).length (ints (vsort ((gM M).take j))) ∧ Below w.heap.size w wr) (fun _ t _ => q - (intOf t).toNat)
  case atStart => exact ⟨0, Nat.zero_le _, rfl, World.ownsRow_nil _ _ _ _, Below.refl _ _⟩
  case round =>
    obtain ⟨j, hj, rfl, hR, hb⟩ := hrel
    obtain ⟨A3, c3, rfl, -, -⟩ := own_form hR
    have HBW := Lib.hid hb
    have hz := hb.size
    have hvl := vsort_len ((gM M).take j)
    rw [List.length_take] at hvl
    by_cases hjl : j < q
    · have hjM : j < M.length := by rw [HQ.out.1]; exact hjl
      have hjG : j < (gM M).length := by rw [HQ.out.2]; exact hjl
      have hst := vsort_take (gM M) j hjG
      obtain ⟨b1, o1, cap1, hv1, _, _, hlt1, hc1⟩ := HM.out.2.resolve_left (by rintro ⟨h, _⟩; omega)
      injection hv1 with hA1 _ hcc1
      subst hA1; subst hcc1
      obtain ⟨p0, p1, -, -⟩ := rmC_at M j hjM
      have hgj : (gM M)[j] = rG M[j].1 := by simp [gM]
      obtain ⟨x, hx⟩ : ∃ x, M[j].1.1 = x := ⟨_, rfl⟩
      obtain ⟨y, hy⟩ : ∃ y, M[j].1.2.1 = y := ⟨_, rfl⟩
      rw [hx] at p0
      rw [hy] at p1
      have c0 : wr.cell? ⟨b1, o1 + j * 4, none⟩ = some (.int .i64 x) := (hb.cell (p := ⟨b1, o1 + j * 4, none⟩) hlt1).trans (hc1 _ _ p0)
      have c1 : wr.cell? ⟨b1, o1 + j * 4 + 1, none⟩ = some (.int .i64 y) := (hb.cell (p := ⟨b1, o1 + j * 4 + 1, none⟩) hlt1).trans (hc1 (j * 4 + 1) _ p1)
      have hG1 : (gM M)[j].1 = x := by rw [hgj]; exact hx
      have hG2 : (gM M)[j].2.1 = y := by rw [hgj]; exact hy
      obtain ⟨L, hL⟩ : ∃ L, vsort ((gM M).take j) = L := ⟨_, rfl⟩
      rw [hL] at hst hR hvl ⊢
      rw [vst, hG1, hG2] at hst
      obtain ⟨n, hn⟩ : ∃ n, L.length = n := ⟨_, rfl⟩
      rw [hn] at hR hvl ⊢
      have HST := Lib.hid hst
      have HR := Lib.hid hR
      have HN := Lib.hid hn
      have hn9 : n ≤ 100000 := by omega
      clear hst hR hx hy hc1 hgj p0 p1 hG1 hG2 hL hn hvl hb
      by_cases hx1 : x = 1
      · subst hx1
        generalize wr = wo at *
        go_wp2_with fail
        go_loopw [5] (fun t WW => ∃ k : Nat, k ≤ n ∧ t = .int .i64 k ∧ (∀ i a, i < k → L[i]? = some a → a < y) ∧ WW.heap = wo.heap ∧ Below wo.heap.size wo WW) (fun t _ => n - (intOf t).toNat)
        case atStart => exact ⟨0, Nat.zero_le _, rfl, fun i a h => by omega, rfl, Below.refl _ _⟩
        case round =>
          obtain ⟨k, hk, rfl, hlt, hhp, hbk⟩ := hrel
          have HLT := Lib.hid hlt
          have HBK := Lib.hid (And.intro hhp hbk)
          have d0 : wr.cell? ⟨b1, o1 + j * 4, none⟩ = some (.int .i64 1) := (hbk.cell (p := ⟨b1, o1 + j * 4, none⟩) (by simp only; omega)).trans c0
          have d1 : wr.cell? ⟨b1, o1 + j * 4 + 1, none⟩ = some (.int .i64 y) := (hbk.cell (p := ⟨b1, o1 + j * 4 + 1, none⟩) (by simp only; omega)).trans c1
          have HRK := Lib.hid ((Rd.of_own HR.out).below hbk)
          clear hlt hhp hbk
          by_cases hkn : k < n
          · obtain ⟨a, ha⟩ : ∃ a, L[k]? = some a := ⟨_, List.getElem?_eq_getElem (by rw [HN.out]; exact hkn)⟩
            obtain ⟨b3, o3, hA3, hlt3, e3⟩ := HRK.out.int_at k a ha
            subst hA3
            have HA := Lib.hid ha
            clear ha
            by_cases hay : a < y
            · have f1 : decide (a < y) = true := by simpa using hay
              go_wp2_with fail
              go_quiet (fail)
              go_wp2_with fail
              go_roundw
              case rel => exact ⟨k + 1, by omega, by go_num, fun i a' hi ha' => by
                  rcases Nat.lt_or_ge i k with h | h
                  · exact HLT.out i a' h ha'
                  · obtain rfl : i = k := by omega
                    rw [HA.out] at ha'
                    injection ha' with ha'
                    omega, HBK.out.1, below_drewN HBK.out.2 _⟩
              case measure => simp [intOf]; omega
            · have f1 : decide (a < y) = false := by simpa using hay
              have hins := insL_at L y k (by rw [HN.out]; exact hk) HLT.out (fun a' ha' => by rw [HA.out] at ha'; injection ha' with ha'; omega)
              have HINS := Lib.hid hins
              clear hins
              go_wp2_with fail
              go_quiet (fail)
              go_wp2_with fail
              have hlo := (HRK.out.lo k (by omega))
              have hhi := (HRK.out.hi k (by omega))
              rw [Nat.mul_one] at hlo hhi
              rw [← ints_take] at hlo
              rw [← ints_drop] at hhi
              rw [Option.map_some, Addr.add_lit] at hhi
              have hnc : n ≤ c3 := by
                rcases HRK.out.2 with ⟨h0, A', c', hv⟩ | ⟨b', o', cap', hv, h1, _⟩
                · omega
                · injection hv with _ _ h3; omega
              have hLk : (L.take k).length = k := by rw [List.length_take, HN.out]; omega
              have hLd : (L.drop k).length = n - k := by rw [List.length_drop, HN.out]
              have HLO := Lib.hid hlo
              have HHI := Lib.hid hhi
              have HLK := Lib.hid (And.intro hLk hLd)
              have EX := Lib.hid (show ∀ W, LS wr W → W.cell? ⟨b1, o1 + j * 4 + 1, none⟩ = some (.int .i64 y) from fun W hW => (Below.cell hW (p := ⟨b1, o1 + j * 4 + 1, none⟩) (by have := HBK.out.2.size; simp only; omega)).trans d1)
              clear hlo hhi hLk hLd
              refine wp_region_held (S := LS wr) (by kernel_rfl) ?_
              change wpAnyH _ _ _ _ _ 18 (List.replicate 18 false).toArray _ _
              have HLD := Lib.hid (show LS wr (wr.drewN nq).drew from (below_drewN (Below.refl _ _) _).drew)
              simp only [List.replicate_succ, List.replicate_zero]
              refine any_take (i := 1) (some 39) (.slice (some ⟨b3, o3, none⟩) n c3) rfl (by rfl) (by kernel_rfl) (by kernel_rfl) (by kernel_rfl) (fun _ _ _ h => h) (Or.inl ⟨by kernel_rfl, (fun w hw => by clear hw; go_simp)⟩) HLD.out ?_
              simp only [Act.put, List.setIfInBounds_toArray, List.set_cons_zero, List.set_cons_succ]
              refine any_take (i := 2) (some 40) (.int .i64 (k : Nat)) rfl (by rfl) (by kernel_rfl) (by kernel_rfl) (by kernel_rfl) (fun _ _ _ h => h) (Or.inl ⟨by kernel_rfl, (fun w hw => by clear hw; go_simp)⟩) HLD.out ?_
              simp only [Act.put, List.setIfInBounds_toArray, List.set_cons_zero, List.set_cons_succ]
              refine any_take (i := 3) (some 41) (.slice (some ⟨b3, o3, none⟩) k c3) rfl (by rfl) (by kernel_rfl) (by kernel_rfl) (by kernel_rfl) (fun _ _ _ h => h) (Or.inl ⟨by kernel_rfl, (fun w hw => by clear hw; go_simp <;> (intro h9; omega))⟩) HLD.out ?_
              simp only [Act.put, List.setIfInBounds_toArray, List.set_cons_zero, List.set_cons_succ]
              refine any_take (i := 5) (some 43) (.slice (some ⟨b1, o1, none⟩) q c) rfl (by rfl) (by kernel_rfl) (by kernel_rfl) (by kernel_rfl) (fun _ _ _ h => h) (Or.inl ⟨by kernel_rfl, (fun w hw => by clear hw; go_simp)⟩) HLD.out ?_
              simp only [Act.put, List.setIfInBounds_toArray, List.set_cons_zero, List.set_cons_succ]
              refine any_take (i := 6) (some 44) (.int .i64 (j : Nat)) rfl (by rfl) (by kernel_rfl) (by kernel_rfl) (by kernel_rfl) (fun _ _ _ h => h) (Or.inl ⟨by kernel_rfl, (fun w hw => by clear hw; go_simp)⟩) HLD.out ?_
              simp only [Act.put, List.setIfInBounds_toArray, List.set_cons_zero, List.set_cons_succ]
              refine any_take (i := 7) (some 45) (.pointer (some ⟨b1, o1 + j * 4, none⟩)) rfl (by rfl) (by kernel_rfl) (by kernel_rfl) (by kernel_rfl) (fun _ _ _ h => h) (Or.inl ⟨by kernel_rfl, (fun w hw => by clear hw; go_simp)⟩) HLD.out ?_
              simp only [Act.put, List.setIfInBounds_toArray, List.set_cons_zero, List.set_cons_succ]
              refine any_take (i := 8) (some 46) (.pointer (some ⟨b1, o1 + j * 4, none⟩)) rfl (by rfl) (by kernel_rfl) (by kernel_rfl) (by kernel_rfl) (fun _ _ _ h => h) (Or.inl ⟨by kernel_rfl, (fun w hw => by clear hw; go_simp)⟩) HLD.out ?_
              simp only [Act.put, List.setIfInBounds_toArray, List.set_cons_zero, List.set_cons_succ]
              refine any_take (i := 9) (some 47) (.pointer (some ⟨b1, o1 + j * 4 + 1, none⟩)) rfl (by rfl) (by kernel_rfl) (by kernel_rfl) (by kernel_rfl) (fun _ _ _ h => h) (Or.inl ⟨by kernel_rfl, (fun w hw => by clear hw; go_simp)⟩) HLD.out ?_
              simp only [Act.put, List.setIfInBounds_toArray, List.set_cons_zero, List.set_cons_succ]
              refine any_take (i := 10) (some 48) (.int .i64 y) rfl (by rfl) (by kernel_rfl) (by kernel_rfl) (by kernel_rfl) (fun _ _ _ h => h) (Or.inl ⟨by kernel_rfl, (fun w hw => by have m0 := EX.out w hw; clear hw; go_simp)⟩) HLD.out ?_
              simp only [Act.put, List.setIfInBounds_toArray, List.set_cons_zero, List.set_cons_succ]
              refine any_take (i := 13) (some 51) (.slice (some ⟨b3, o3, none⟩) n c3) rfl (by rfl) (by kernel_rfl) (by kernel_rfl) (by kernel_rfl) (fun _ _ _ h => h) (Or.inl ⟨by kernel_rfl, (fun w hw => by clear hw; go_simp)⟩) HLD.out ?_
              simp only [Act.put, List.setIfInBounds_toArray, List.set_cons_zero, List.set_cons_succ]
              refine any_take (i := 14) (some 52) (.int .i64 (k : Nat)) rfl (by rfl) (by kernel_rfl) (by kernel_rfl) (by kernel_rfl) (fun _ _ _ h => h) (Or.inl ⟨by kernel_rfl, (fun w hw => by clear hw; go_simp)⟩) HLD.out ?_
              simp only [Act.put, List.setIfInBounds_toArray, List.set_cons_zero, List.set_cons_succ]
              refine any_take (i := 15) (some 53) (.slice (if c3 = k then some ⟨b3, o3, none⟩ else some ⟨b3, o3 + k, none⟩) (n - k) (c3 - k)) rfl (by rfl) (by kernel_rfl) (by kernel_rfl) (by kernel_rfl) (fun _ _ _ h => h) (Or.inl ⟨by kernel_rfl, (fun w hw => by clear hw; go_simp)⟩) HLD.out ?_
              simp only [Act.put, List.setIfInBounds_toArray, List.set_cons_zero, List.set_cons_succ]
              obtain ⟨ti, hti, hz0, hz1, hz2⟩ := info_parts intInfo
              refine any_copy (i0 := 0) (i1 := 4) (i2 := 11) (i3 := 12) (d0 := 38) (d1 := 42) (d2 := 49) (d3 := 50) (ts := 41) (t := 43) (e := 3) (size := 1) rfl rfl rfl rfl rfl rfl rfl rfl rfl rfl rfl rfl (by decide) (by decide) (by simp) (by kernel_rfl) (by kernel_rfl) (by kernel_rfl) (by kernel_rfl) (by kernel_rfl) (by kernel_rfl)
                Try.underlying43 hti hz0 hz1 hz2 rfl (by omega) (fun ev w => by go_simp) [.int .i64 y] rfl (by intro u hu; simp only [List.mem_cons, List.not_mem_nil, or_false] at hu; subst hu; rfl)
                (fun a' ha w => by have h : a'.eval (.tmp 48) = .int .i64 y := (ha 48 (by decide) (by decide)).trans (by rfl); simp only [Act.eval, Array.getD_eq_getD_getElem?] at h; go_simp) (by rfl) (by rfl) (by rfl) (by rfl) (by rfl) (HLO.out.below HLD.out) (ints_one _) (by unfold maxLen; omega) (by omega) HLD.out ?_
              intro v0 v1 v2 v3 w' hLS hBw hown
              have hwz := HBK.out.2.size
              have hzd : wr.heap.size ≤ (wr.drewN nq).drew.heap.size := HLD.out.size
              have hown2 := own_mono hown (base' := w.heap.size) (Nat.le_trans (Nat.le_trans hz hwz) hzd)
              rw [← HLK.out.1] at hown2
              have hLS2 : Below wr.heap.size wr w' := hLS
              obtain ⟨v4, w4, hr4, ho4, hg4, -⟩ := run_append_rd (P := Try.prog) w' w.heap.size 43 43 3 ti _ 1 8 Try.underlying43 hti hz0 hz1 hz2 rfl (by omega) v3 _ _ hown2 _ (n - k) _ (HHI.out.below hLS2) (ints_one _) (by rw [HLK.out.1]; unfold maxLen; omega) (by rw [HLK.out.1]; omega) (by have := hLS2.size; omega)
              have hb4 : Below w.heap.size w' w4 := (Below.refl _ _).grown hg4 (by have := hLS2.size; omega) (fun b e => (hown2.lt b e).1)
              have hS4 : Below wr.heap.size w' w4 := (Below.refl _ _).grown hg4 hLS2.size (fun b e => Nat.le_trans hzd (hown.lt b e).1)
              have hLS4 : LS wr w4 := hLS2.trans hS4
              have HE := Lib.hid (And.intro ho4 (hLS2.trans hS4))
              clear hown hown2 hLS hLS2 hBw ho4 hg4 hb4 hS4
              simp only [Act.put, List.setIfInBounds_toArray, List.set_cons_zero, List.set_cons_succ]
              refine wpAnyH_all (rs := [16]) (by kernel_rfl) (by simp) fun q9 hq9 => ?_
              obtain rfl : q9 = 16 := by simpa using hq9
              refine ops_val (d := some 54) (v := v4) (w' := w4) rfl (by rfl) (by kernel_rfl) (exec_append (t := 43) (by rfl) (by rfl) (by rfl) hr4) hLS4 ?_
              simp only [Act.put, List.setIfInBounds_toArray, List.set_cons_zero, List.set_cons_succ]
              refine any_take (i := 17) (some 3) v4 rfl (by rfl) (by kernel_rfl) (by kernel_rfl) (by kernel_rfl) (fun _ _ _ h => h) (Or.inl ⟨by kernel_rfl, (fun w hw => by clear hw; go_simp)⟩) hLS4 ?_
              simp only [Act.put, List.setIfInBounds_toArray, List.set_cons_zero, List.set_cons_succ]
              refine wpAnyH_done (by kernel_rfl) ?_ _
              go_wp2_with fail
              go_roundw
              case rel =>
                have h := HST.out
                first | rw [if_pos rfl, HINS.out] at h | rw [if_pos trivial, HINS.out] at h
                have ho := HE.out.1
                rw [HLK.out.1] at ho
                refine ⟨j + 1, by omega, by go_num, ?_, HBW.out.trans ((HBK.out.2.trans (HE.out.2.mono HBK.out.2.size)).mono hz)⟩
                rw [h]
                have e1 : ints (L.take k ++ y :: L.drop k) = ints (L.take k) ++ [.int .i64 y] ++ ints (L.drop k) := by simp [ints]
                have e2 : (L.take k ++ y :: L.drop k).length = k + 1 + (n - k) := by rw [List.length_append, List.length_cons, HLK.out.1, HLK.out.2] <;> omega
                rw [e1, e2]
                exact ho
              case measure => simp [intOf]; omega
          · obtain rfl : k = n := by omega
            have hins := insL_at L y k (by rw [HN.out]; exact Nat.le_refl _) HLT.out (fun a' ha' => by have := (List.getElem?_eq_some_iff.1 ha').1; have := HN.out; omega)
            have HINS := Lib.hid hins
            clear hins
            rcases HR.out.2 with ⟨hv, hn0⟩ | ⟨g3, cap3, cur3, hv, -, -, -, -, -, -⟩
            · injection hv with hv1 hv2 hv3
              subst hv1 hv3 hn0
              clear hv2
              go_wp2_with fail
              go_quiet (fail)
              go_wp2_with fail
              have hlo := (HRK.out.lo 0 (by omega))
              have hhi := (HRK.out.hi 0 (by omega))
              rw [Nat.mul_one] at hlo hhi
              rw [← ints_take] at hlo
              rw [← ints_drop] at hhi
              simp only [if_true, Nat.sub_self] at hhi
              have hnc : 0 ≤ 0 := Nat.le_refl _
              have hLk : (L.take 0).length = 0 := by rw [List.length_take, HN.out]; omega
              have hLd : (L.drop 0).length = 0 - 0 := by rw [List.length_drop, HN.out]
              have HLO := Lib.hid hlo
              have HHI := Lib.hid hhi
              have HLK := Lib.hid (And.intro hLk hLd)
              have EX := Lib.hid (show ∀ W, LS wr W → W.cell? ⟨b1, o1 + j * 4 + 1, none⟩ = some (.int .i64 y) from fun W hW => (Below.cell hW (p := ⟨b1, o1 + j * 4 + 1, none⟩) (by have := HBK.out.2.size; simp only; omega)).trans d1)
              clear hlo hhi hLk hLd
              refine wp_region_held (S := LS wr) (by kernel_rfl) ?_
              change wpAnyH _ _ _ _ _ 18 (List.replicate 18 false).toArray _ _
              have HLD := Lib.hid (show LS wr (wr.drewN nq).drew from (below_drewN (Below.refl _ _) _).drew)
              simp only [List.replicate_succ, List.replicate_zero]
              refine any_take (i := 1) (some 39) (.slice none 0 0) rfl (by rfl) (by kernel_rfl) (by kernel_rfl) (by kernel_rfl) (fun _ _ _ h => h) (Or.inl ⟨by kernel_rfl, (fun w hw => by clear hw; go_simp)⟩) HLD.out ?_
              simp only [Act.put, List.setIfInBounds_toArray, List.set_cons_zero, List.set_cons_succ]
              refine any_take (i := 2) (some 40) (.int .i64 ((0 : Nat) : Int)) rfl (by rfl) (by kernel_rfl) (by kernel_rfl) (by kernel_rfl) (fun _ _ _ h => h) (Or.inl ⟨by kernel_rfl, (fun w hw => by clear hw; go_simp)⟩) HLD.out ?_
              simp only [Act.put, List.setIfInBounds_toArray, List.set_cons_zero, List.set_cons_succ]
              refine any_take (i := 3) (some 41) (.slice none 0 0) rfl (by rfl) (by kernel_rfl) (by kernel_rfl) (by kernel_rfl) (fun _ _ _ h => h) (Or.inl ⟨by kernel_rfl, (fun w hw => by clear hw; go_simp)⟩) HLD.out ?_
              simp only [Act.put, List.setIfInBounds_toArray, List.set_cons_zero, List.set_cons_succ]
              refine any_take (i := 5) (some 43) (.slice (some ⟨b1, o1, none⟩) q c) rfl (by rfl) (by kernel_rfl) (by kernel_rfl) (by kernel_rfl) (fun _ _ _ h => h) (Or.inl ⟨by kernel_rfl, (fun w hw => by clear hw; go_simp)⟩) HLD.out ?_
              simp only [Act.put, List.setIfInBounds_toArray, List.set_cons_zero, List.set_cons_succ]
              refine any_take (i := 6) (some 44) (.int .i64 (j : Nat)) rfl (by rfl) (by kernel_rfl) (by kernel_rfl) (by kernel_rfl) (fun _ _ _ h => h) (Or.inl ⟨by kernel_rfl, (fun w hw => by clear hw; go_simp)⟩) HLD.out ?_
              simp only [Act.put, List.setIfInBounds_toArray, List.set_cons_zero, List.set_cons_succ]
              refine any_take (i := 7) (some 45) (.pointer (some ⟨b1, o1 + j * 4, none⟩)) rfl (by rfl) (by kernel_rfl) (by kernel_rfl) (by kernel_rfl) (fun _ _ _ h => h) (Or.inl ⟨by kernel_rfl, (fun w hw => by clear hw; go_simp)⟩) HLD.out ?_
              simp only [Act.put, List.setIfInBounds_toArray, List.set_cons_zero, List.set_cons_succ]
              refine any_take (i := 8) (some 46) (.pointer (some ⟨b1, o1 + j * 4, none⟩)) rfl (by rfl) (by kernel_rfl) (by kernel_rfl) (by kernel_rfl) (fun _ _ _ h => h) (Or.inl ⟨by kernel_rfl, (fun w hw => by clear hw; go_simp)⟩) HLD.out ?_
              simp only [Act.put, List.setIfInBounds_toArray, List.set_cons_zero, List.set_cons_succ]
              refine any_take (i := 9) (some 47) (.pointer (some ⟨b1, o1 + j * 4 + 1, none⟩)) rfl (by rfl) (by kernel_rfl) (by kernel_rfl) (by kernel_rfl) (fun _ _ _ h => h) (Or.inl ⟨by kernel_rfl, (fun w hw => by clear hw; go_simp)⟩) HLD.out ?_
              simp only [Act.put, List.setIfInBounds_toArray, List.set_cons_zero, List.set_cons_succ]
              refine any_take (i := 10) (some 48) (.int .i64 y) rfl (by rfl) (by kernel_rfl) (by kernel_rfl) (by kernel_rfl) (fun _ _ _ h => h) (Or.inl ⟨by kernel_rfl, (fun w hw => by have m0 := EX.out w hw; clear hw; go_simp)⟩) HLD.out ?_
              simp only [Act.put, List.setIfInBounds_toArray, List.set_cons_zero, List.set_cons_succ]
              refine any_take (i := 13) (some 51) (.slice none 0 0) rfl (by rfl) (by kernel_rfl) (by kernel_rfl) (by kernel_rfl) (fun _ _ _ h => h) (Or.inl ⟨by kernel_rfl, (fun w hw => by clear hw; go_simp)⟩) HLD.out ?_
              simp only [Act.put, List.setIfInBounds_toArray, List.set_cons_zero, List.set_cons_succ]
              refine any_take (i := 14) (some 52) (.int .i64 ((0 : Nat) : Int)) rfl (by rfl) (by kernel_rfl) (by kernel_rfl) (by kernel_rfl) (fun _ _ _ h => h) (Or.inl ⟨by kernel_rfl, (fun w hw => by clear hw; go_simp)⟩) HLD.out ?_
              simp only [Act.put, List.setIfInBounds_toArray, List.set_cons_zero, List.set_cons_succ]
              refine any_take (i := 15) (some 53) (.slice none 0 0) rfl (by rfl) (by kernel_rfl) (by kernel_rfl) (by kernel_rfl) (fun _ _ _ h => h) (Or.inl ⟨by kernel_rfl, (fun w hw => by clear hw; go_simp)⟩) HLD.out ?_
              simp only [Act.put, List.setIfInBounds_toArray, List.set_cons_zero, List.set_cons_succ]
              obtain ⟨ti, hti, hz0, hz1, hz2⟩ := info_parts intInfo
              refine any_copy (i0 := 0) (i1 := 4) (i2 := 11) (i3 := 12) (d0 := 38) (d1 := 42) (d2 := 49) (d3 := 50) (ts := 41) (t := 43) (e := 3) (size := 1) rfl rfl rfl rfl rfl rfl rfl rfl rfl rfl rfl rfl (by decide) (by decide) (by simp) (by kernel_rfl) (by kernel_rfl) (by kernel_rfl) (by kernel_rfl) (by kernel_rfl) (by kernel_rfl)
                Try.underlying43 hti hz0 hz1 hz2 rfl (by omega) (fun ev w => by go_simp) [.int .i64 y] rfl (by intro u hu; simp only [List.mem_cons, List.not_mem_nil, or_false] at hu; subst hu; rfl)
                (fun a' ha w => by have h : a'.eval (.tmp 48) = .int .i64 y := (ha 48 (by decide) (by decide)).trans (by rfl); simp only [Act.eval, Array.getD_eq_getD_getElem?] at h; go_simp) (by rfl) (by rfl) (by rfl) (by rfl) (by rfl) (HLO.out.below HLD.out) (ints_one _) (by unfold maxLen; omega) (by omega) HLD.out ?_
              intro v0 v1 v2 v3 w' hLS hBw hown
              have hwz := HBK.out.2.size
              have hzd : wr.heap.size ≤ (wr.drewN nq).drew.heap.size := HLD.out.size
              have hown2 := own_mono hown (base' := w.heap.size) (Nat.le_trans (Nat.le_trans hz hwz) hzd)
              rw [← HLK.out.1] at hown2
              have hLS2 : Below wr.heap.size wr w' := hLS
              obtain ⟨v4, w4, hr4, ho4, hg4, -⟩ := run_append_rd (P := Try.prog) w' w.heap.size 43 43 3 ti _ 1 8 Try.underlying43 hti hz0 hz1 hz2 rfl (by omega) v3 _ _ hown2 _ (0 - 0) _ (HHI.out.below hLS2) (ints_one _) (by rw [HLK.out.1]; unfold maxLen; omega) (by rw [HLK.out.1]; omega) (by have := hLS2.size; omega)
              have hb4 : Below w.heap.size w' w4 := (Below.refl _ _).grown hg4 (by have := hLS2.size; omega) (fun b e => (hown2.lt b e).1)
              have hS4 : Below wr.heap.size w' w4 := (Below.refl _ _).grown hg4 hLS2.size (fun b e => Nat.le_trans hzd (hown.lt b e).1)
              have hLS4 : LS wr w4 := hLS2.trans hS4
              have HE := Lib.hid (And.intro ho4 (hLS2.trans hS4))
              clear hown hown2 hLS hLS2 hBw ho4 hg4 hb4 hS4
              simp only [Act.put, List.setIfInBounds_toArray, List.set_cons_zero, List.set_cons_succ]
              refine wpAnyH_all (rs := [16]) (by kernel_rfl) (by simp) fun q9 hq9 => ?_
              obtain rfl : q9 = 16 := by simpa using hq9
              refine ops_val (d := some 54) (v := v4) (w' := w4) rfl (by rfl) (by kernel_rfl) (exec_append (t := 43) (by rfl) (by rfl) (by rfl) hr4) hLS4 ?_
              simp only [Act.put, List.setIfInBounds_toArray, List.set_cons_zero, List.set_cons_succ]
              refine any_take (i := 17) (some 3) v4 rfl (by rfl) (by kernel_rfl) (by kernel_rfl) (by kernel_rfl) (fun _ _ _ h => h) (Or.inl ⟨by kernel_rfl, (fun w hw => by clear hw; go_simp)⟩) hLS4 ?_
              simp only [Act.put, List.setIfInBounds_toArray, List.set_cons_zero, List.set_cons_succ]
              refine wpAnyH_done (by kernel_rfl) ?_ _
              go_wp2_with fail
              go_roundw
              case rel =>
                have h := HST.out
                first | rw [if_pos rfl, HINS.out] at h | rw [if_pos trivial, HINS.out] at h
                have ho := HE.out.1
                rw [HLK.out.1] at ho
                refine ⟨j + 1, by omega, by go_num, ?_, HBW.out.trans ((HBK.out.2.trans (HE.out.2.mono HBK.out.2.size)).mono hz)⟩
                rw [h]
                have e1 : ints (L.take 0 ++ y :: L.drop 0) = ints (L.take 0) ++ [.int .i64 y] ++ ints (L.drop 0) := by simp [ints]
                have e2 : (L.take 0 ++ y :: L.drop 0).length = 0 + 1 + (0 - 0) := by rw [List.length_append, List.length_cons, HLK.out.1, HLK.out.2] <;> omega
                rw [e1, e2]
                exact ho
              case measure => simp [intOf]; omega
            · injection hv with hv1 hv2 hv3
              subst hv1
              clear hv2 hv3
              go_wp2_with fail
              go_quiet (fail)
              go_wp2_with fail
              have hlo := (HRK.out.lo k (by omega))
              have hhi := (HRK.out.hi k (by omega))
              rw [Nat.mul_one] at hlo hhi
              rw [← ints_take] at hlo
              rw [← ints_drop] at hhi
              rw [Option.map_some, Addr.add_lit] at hhi
              have hnc : k ≤ c3 := by
                rcases HRK.out.2 with ⟨h0, A', c', hv⟩ | ⟨b', o', cap', hv, h1, _⟩
                · omega
                · injection hv with _ _ h3; omega
              have hLk : (L.take k).length = k := by rw [List.length_take, HN.out]; omega
              have hLd : (L.drop k).length = k - k := by rw [List.length_drop, HN.out]
              have HLO := Lib.hid hlo
              have HHI := Lib.hid hhi
              have HLK := Lib.hid (And.intro hLk hLd)
              have EX := Lib.hid (show ∀ W, LS wr W → W.cell? ⟨b1, o1 + j * 4 + 1, none⟩ = some (.int .i64 y) from fun W hW => (Below.cell hW (p := ⟨b1, o1 + j * 4 + 1, none⟩) (by have := HBK.out.2.size; simp only; omega)).trans d1)
              clear hlo hhi hLk hLd
              refine wp_region_held (S := LS wr) (by kernel_rfl) ?_
              change wpAnyH _ _ _ _ _ 18 (List.replicate 18 false).toArray _ _
              have HLD := Lib.hid (show LS wr (wr.drewN nq).drew from (below_drewN (Below.refl _ _) _).drew)
              simp only [List.replicate_succ, List.replicate_zero]
              refine any_take (i := 1) (some 39) (.slice (some ⟨g3, 0, none⟩) k c3) rfl (by rfl) (by kernel_rfl) (by kernel_rfl) (by kernel_rfl) (fun _ _ _ h => h) (Or.inl ⟨by kernel_rfl, (fun w hw => by clear hw; go_simp)⟩) HLD.out ?_
              simp only [Act.put, List.setIfInBounds_toArray, List.set_cons_zero, List.set_cons_succ]
              refine any_take (i := 2) (some 40) (.int .i64 (k : Nat)) rfl (by rfl) (by kernel_rfl) (by kernel_rfl) (by kernel_rfl) (fun _ _ _ h => h) (Or.inl ⟨by kernel_rfl, (fun w hw => by clear hw; go_simp)⟩) HLD.out ?_
              simp only [Act.put, List.setIfInBounds_toArray, List.set_cons_zero, List.set_cons_succ]
              refine any_take (i := 3) (some 41) (.slice (some ⟨g3, 0, none⟩) k c3) rfl (by rfl) (by kernel_rfl) (by kernel_rfl) (by kernel_rfl) (fun _ _ _ h => h) (Or.inl ⟨by kernel_rfl, (fun w hw => by clear hw; go_simp <;> (intro h9; omega))⟩) HLD.out ?_
              simp only [Act.put, List.setIfInBounds_toArray, List.set_cons_zero, List.set_cons_succ]
              refine any_take (i := 5) (some 43) (.slice (some ⟨b1, o1, none⟩) q c) rfl (by rfl) (by kernel_rfl) (by kernel_rfl) (by kernel_rfl) (fun _ _ _ h => h) (Or.inl ⟨by kernel_rfl, (fun w hw => by clear hw; go_simp)⟩) HLD.out ?_
              simp only [Act.put, List.setIfInBounds_toArray, List.set_cons_zero, List.set_cons_succ]
              refine any_take (i := 6) (some 44) (.int .i64 (j : Nat)) rfl (by rfl) (by kernel_rfl) (by kernel_rfl) (by kernel_rfl) (fun _ _ _ h => h) (Or.inl ⟨by kernel_rfl, (fun w hw => by clear hw; go_simp)⟩) HLD.out ?_
              simp only [Act.put, List.setIfInBounds_toArray, List.set_cons_zero, List.set_cons_succ]
              refine any_take (i := 7) (some 45) (.pointer (some ⟨b1, o1 + j * 4, none⟩)) rfl (by rfl) (by kernel_rfl) (by kernel_rfl) (by kernel_rfl) (fun _ _ _ h => h) (Or.inl ⟨by kernel_rfl, (fun w hw => by clear hw; go_simp)⟩) HLD.out ?_
              simp only [Act.put, List.setIfInBounds_toArray, List.set_cons_zero, List.set_cons_succ]
              refine any_take (i := 8) (some 46) (.pointer (some ⟨b1, o1 + j * 4, none⟩)) rfl (by rfl) (by kernel_rfl) (by kernel_rfl) (by kernel_rfl) (fun _ _ _ h => h) (Or.inl ⟨by kernel_rfl, (fun w hw => by clear hw; go_simp)⟩) HLD.out ?_
              simp only [Act.put, List.setIfInBounds_toArray, List.set_cons_zero, List.set_cons_succ]
              refine any_take (i := 9) (some 47) (.pointer (some ⟨b1, o1 + j * 4 + 1, none⟩)) rfl (by rfl) (by kernel_rfl) (by kernel_rfl) (by kernel_rfl) (fun _ _ _ h => h) (Or.inl ⟨by kernel_rfl, (fun w hw => by clear hw; go_simp)⟩) HLD.out ?_
              simp only [Act.put, List.setIfInBounds_toArray, List.set_cons_zero, List.set_cons_succ]
              refine any_take (i := 10) (some 48) (.int .i64 y) rfl (by rfl) (by kernel_rfl) (by kernel_rfl) (by kernel_rfl) (fun _ _ _ h => h) (Or.inl ⟨by kernel_rfl, (fun w hw => by have m0 := EX.out w hw; clear hw; go_simp)⟩) HLD.out ?_
              simp only [Act.put, List.setIfInBounds_toArray, List.set_cons_zero, List.set_cons_succ]
              refine any_take (i := 13) (some 51) (.slice (some ⟨g3, 0, none⟩) k c3) rfl (by rfl) (by kernel_rfl) (by kernel_rfl) (by kernel_rfl) (fun _ _ _ h => h) (Or.inl ⟨by kernel_rfl, (fun w hw => by clear hw; go_simp)⟩) HLD.out ?_
              simp only [Act.put, List.setIfInBounds_toArray, List.set_cons_zero, List.set_cons_succ]
              refine any_take (i := 14) (some 52) (.int .i64 (k : Nat)) rfl (by rfl) (by kernel_rfl) (by kernel_rfl) (by kernel_rfl) (fun _ _ _ h => h) (Or.inl ⟨by kernel_rfl, (fun w hw => by clear hw; go_simp)⟩) HLD.out ?_
              simp only [Act.put, List.setIfInBounds_toArray, List.set_cons_zero, List.set_cons_succ]
              refine any_take (i := 15) (some 53) (.slice (if c3 = k then some ⟨g3, 0, none⟩ else some ⟨g3, 0 + k, none⟩) (k - k) (c3 - k)) rfl (by rfl) (by kernel_rfl) (by kernel_rfl) (by kernel_rfl) (fun _ _ _ h => h) (Or.inl ⟨by kernel_rfl, (fun w hw => by clear hw; go_simp)⟩) HLD.out ?_
              simp only [Act.put, List.setIfInBounds_toArray, List.set_cons_zero, List.set_cons_succ]
              obtain ⟨ti, hti, hz0, hz1, hz2⟩ := info_parts intInfo
              refine any_copy (i0 := 0) (i1 := 4) (i2 := 11) (i3 := 12) (d0 := 38) (d1 := 42) (d2 := 49) (d3 := 50) (ts := 41) (t := 43) (e := 3) (size := 1) rfl rfl rfl rfl rfl rfl rfl rfl rfl rfl rfl rfl (by decide) (by decide) (by simp) (by kernel_rfl) (by kernel_rfl) (by kernel_rfl) (by kernel_rfl) (by kernel_rfl) (by kernel_rfl)
                Try.underlying43 hti hz0 hz1 hz2 rfl (by omega) (fun ev w => by go_simp) [.int .i64 y] rfl (by intro u hu; simp only [List.mem_cons, List.not_mem_nil, or_false] at hu; subst hu; rfl)
                (fun a' ha w => by have h : a'.eval (.tmp 48) = .int .i64 y := (ha 48 (by decide) (by decide)).trans (by rfl); simp only [Act.eval, Array.getD_eq_getD_getElem?] at h; go_simp) (by rfl) (by rfl) (by rfl) (by rfl) (by rfl) (HLO.out.below HLD.out) (ints_one _) (by unfold maxLen; omega) (by omega) HLD.out ?_
              intro v0 v1 v2 v3 w' hLS hBw hown
              have hwz := HBK.out.2.size
              have hzd : wr.heap.size ≤ (wr.drewN nq).drew.heap.size := HLD.out.size
              have hown2 := own_mono hown (base' := w.heap.size) (Nat.le_trans (Nat.le_trans hz hwz) hzd)
              rw [← HLK.out.1] at hown2
              have hLS2 : Below wr.heap.size wr w' := hLS
              obtain ⟨v4, w4, hr4, ho4, hg4, -⟩ := run_append_rd (P := Try.prog) w' w.heap.size 43 43 3 ti _ 1 8 Try.underlying43 hti hz0 hz1 hz2 rfl (by omega) v3 _ _ hown2 _ (k - k) _ (HHI.out.below hLS2) (ints_one _) (by rw [HLK.out.1]; unfold maxLen; omega) (by rw [HLK.out.1]; omega) (by have := hLS2.size; omega)
              have hb4 : Below w.heap.size w' w4 := (Below.refl _ _).grown hg4 (by have := hLS2.size; omega) (fun b e => (hown2.lt b e).1)
              have hS4 : Below wr.heap.size w' w4 := (Below.refl _ _).grown hg4 hLS2.size (fun b e => Nat.le_trans hzd (hown.lt b e).1)
              have hLS4 : LS wr w4 := hLS2.trans hS4
              have HE := Lib.hid (And.intro ho4 (hLS2.trans hS4))
              clear hown hown2 hLS hLS2 hBw ho4 hg4 hb4 hS4
              simp only [Act.put, List.setIfInBounds_toArray, List.set_cons_zero, List.set_cons_succ]
              refine wpAnyH_all (rs := [16]) (by kernel_rfl) (by simp) fun q9 hq9 => ?_
              obtain rfl : q9 = 16 := by simpa using hq9
              refine ops_val (d := some 54) (v := v4) (w' := w4) rfl (by rfl) (by kernel_rfl) (exec_append (t := 43) (by rfl) (by rfl) (by rfl) hr4) hLS4 ?_
              simp only [Act.put, List.setIfInBounds_toArray, List.set_cons_zero, List.set_cons_succ]
              refine any_take (i := 17) (some 3) v4 rfl (by rfl) (by kernel_rfl) (by kernel_rfl) (by kernel_rfl) (fun _ _ _ h => h) (Or.inl ⟨by kernel_rfl, (fun w hw => by clear hw; go_simp)⟩) hLS4 ?_
              simp only [Act.put, List.setIfInBounds_toArray, List.set_cons_zero, List.set_cons_succ]
              refine wpAnyH_done (by kernel_rfl) ?_ _
              go_wp2_with fail
              go_roundw
              case rel =>
                have h := HST.out
                first | rw [if_pos rfl, HINS.out] at h | rw [if_pos trivial, HINS.out] at h
                have ho := HE.out.1
                rw [HLK.out.1] at ho
                refine ⟨j + 1, by omega, by go_num, ?_, HBW.out.trans ((HBK.out.2.trans (HE.out.2.mono HBK.out.2.size)).mono hz)⟩
                rw [h]
                have e1 : ints (L.take k ++ y :: L.drop k) = ints (L.take k) ++ [.int .i64 y] ++ ints (L.drop k) := by simp [ints]
                have e2 : (L.take k ++ y :: L.drop k).length = k + 1 + (k - k) := by rw [List.length_append, List.length_cons, HLK.out.1, HLK.out.2] <;> omega
                rw [e1, e2]
                exact ho
              case measure => simp [intOf]; omega
      · have f2 : (x != 1) = true := by simpa using hx1
        go_wp2_with fail
        go_roundw
        case rel =>
          have h := HST.out
          rw [if_neg hx1] at h
          exact ⟨j + 1, by omega, by go_num, by rw [h, HN.out]; exact HR.out, HBW.out⟩
        case measure => simp [intOf]; omega
    · obtain rfl : j = q := by omega
      rw [List.take_of_length_le (by rw [HQ.out.2]; exact Nat.le_refl _)] at hR ⊢
      have HR := Lib.hid hR
      clear hR hvl hb
      go_wp2_with fail
      go_ret
      exact ⟨_, rfl, HR.out, HBW.out⟩
theorem rvars11 (w : World) (v : Value) (M : List Rm) (hM : Rd w 4 v M.length (M.flatMap rmC)) (hl : M.length ≤ 100000) :
    Calls Try.prog 15 #[v] w fun e w' => ∃ v', e = .returned v' ∧ Rd w' 1 v' (vsort (gM M)).length (ints (vsort (gM M))) ∧ Below w.heap.size w w' :=
  (rvars11o w v M hM hl).mono fun _ _ ⟨v', h1, h2, h3⟩ => ⟨v', h1, Rd.of_own h2, h3⟩
end Go.Proofs.Ytbnpmeaaaecciaa
/- graph's Vars: the map's keys, sorted. -/
namespace Go.Proofs.Ytbnpmeaaaecciaa
open Go.RowKit Go.Maps Go.Sort Go.Shelf
set_option maxRecDepth 100000
/-- slices.Sort's two contracts at this program. -/
theorem sortsV (m : Nat) : AnyZI.SortsIn Try.prog Try.sortedV_ren Fence.wide m :=
  ⟨fun blk off cap ss W hH hblk hsz => callsIn_wide.2 (AnyM.slices_Sort_int Try.sortV blk off cap ss W hH hblk hsz),
   fun p cap W => callsIn_wide.2 (AnyM.slices_Sort_int_none Try.sortV p cap W)⟩
/-- A map's keys are the variables. -/
theorem keys_names {G : List Gn} {b : Nat} {W : World} {k : Nat} {D : DataW Value} (hown : W.ownsMap Try.prog 3 heldE b k D) (hnd : (names G).Nodup) (hwf : ∀ n ∈ names G, (Lit.int .i64 n).wf = true)
    (hh : ∀ n : Int, (Lit.int .i64 n).wf = true → has D (.int .i64 n) = (gvf G n).isSome) : (names G).Perm (intKeys D) := by
  obtain ⟨es, hD, hpw, -⟩ := hown.entries lawI
  obtain ⟨es', hD', hko⟩ := hown.keysOf
  obtain rfl : es = es' := by rw [hD] at hD'; simpa using hD'
  subst hD
  have hw := intKeys_wf hown Try.underlying3
  refine perm_intKeys hpw (fun p hp => by obtain ⟨v, hv⟩ := hko p hp; obtain ⟨x, _, hx, _⟩ := Maps.keyOf_i64 Try.underlying3 hv; exact ⟨x, hx⟩) hnd (fun x => ?_)
  rw [← gvar_names]
  have e2 : (gvf G x).isSome = (gvar G x).isSome := by unfold gvf; cases gvar G x <;> rfl
  constructor
  · intro h
    rw [hh x (hwf x ((gvar_names G x).1 h)), e2]
    exact h
  · intro h
    have hx : x ∈ intKeys (.map es) := by
      rw [has_eq, List.any_eq_true] at h
      obtain ⟨p, hp, hs⟩ := h
      obtain ⟨v, hv⟩ := hko p hp
      obtain ⟨a, _, ha, _⟩ := Maps.keyOf_i64 Try.underlying3 hv
      rw [ha] at hs
      exact List.mem_map.2 ⟨p, hp, by rw [ha]; simpa [Lit.sameKey, Go.intOf] using hs⟩
    rw [hh x (hw x hx), e2] at h
    exact h
set_option maxHeartbeats 4000000 in
theorem vars_graph (w : World) (B g mb : Nat) (v : Value) (L : List Nd) (G : List Gn) (hG : GrM B w g v mb L G) (hl : G.length ≤ 1000000) (hnd : (names G).Nodup) (hwf : ∀ n ∈ names G, (Lit.int .i64 n).wf = true) :
    Calls Try.prog 84 #[.pointer (some ⟨g, 0, none⟩)] w fun e w' => ∃ v', e = .returned v' ∧ w'.ownsRow w.heap.size 3 1 v' (vsort G).length (ints (vsort G)) ∧ Below w.heap.size w w' := by
  obtain ⟨S, kk, D0, hown, hkk, hT, hS, hh⟩ := hG.vars
  have hperm := keys_names hown hnd hwf (fun n hn => (hh n hn).1)
  have hsz : Maps.size D0 ≤ 1000000 := by
    obtain ⟨es, hD, -⟩ := hown.keysOf
    subst hD
    have h1 := hperm.length_eq
    have h2 : (names G).length ≤ G.length := List.length_filterMap_le _ _
    simp only [intKeys, List.length_map] at h1
    simp only [Maps.size]
    omega
  refine (callsIn_wide (n := 6)).1 ?_
  have hbl := hown.lt
  have hseq : SeqGives Fence.wide 2 Try.prog 105 #[.pointer (some ⟨w.heap.size, 0, none⟩)] encZ (fun ss => ss.Perm (intKeys D0)) (Maps.size D0) (w.alloc (.cells #[.map (some mb)] 77)) :=
    AnyZI.keys_gives (ρ := Try.keysV_ren) { Try.keysV with } Fence.wide _ trivial rfl (by omega) w.heap.size mb kk D0 _ (by simp) (by simp) (by
      obtain ⟨es, clock, hb, Ft, hs, hD⟩ := hown
      exact ⟨es, clock, (Below.heap_alloc _ _ mb hbl).trans hb, Ft, hs, hD⟩)
  have cK : ∀ m W, CallsIn Fence.wide 5 Try.prog 100 #[.map m] W fun e w' => e = .returned (.func (.func 105) #[] #[.pointer (some ⟨W.heap.size, 0, none⟩)]) ∧ w' = W.alloc (.cells #[.map m] 77) := fun m W => AnyZI.keys_in Try.keysV Fence.wide 5 trivial rfl m W
  have cS := AnyZI.sorted_in Try.sortedV Fence.wide 5 trivial trivial trivial trivial rfl (by omega) (sortsV _) (enters_of Try.func104 (by kernel_rfl) rfl) 105 #[.pointer (some ⟨w.heap.size, 0, none⟩)] trivial (enters_of Try.func105 (by kernel_rfl) rfl) _ _ (by unfold maxLen; omega) (by omega) _ hseq
  change CallsIn _ _ Try.prog 99 _ _ _ at cS
  have hfK : Fence.wide.fn 100 := trivial
  have hfS : Fence.wide.fn 99 := trivial
  have g1 : w.cell? ⟨g, 1, none⟩ = some (.map (some mb)) := cell_of_row w _ 1 _ _ (0, 0) hG.cell
  have HP := Lib.hid hperm
  clear hG hown hT hh hperm hseq
  refine callsIn_of_wp Try.func84 rfl trivial ?_ rfl
  simp only [Try.ntmps84, List.size_toArray, List.length_cons, List.length_nil, Nat.reduceAdd, Nat.reduceSub, Array.replicate_succ, Array.replicate_zero, List.push_toArray, List.append_toArray, List.nil_append, List.cons_append]
  gi_wp2_with (first
    | (gi_at_call 100; refine (cK _ _).mono ?_; rintro e w' ⟨rfl, rfl⟩)
    | (gi_at_call 99; refine cS.mono ?_; rintro e w' ⟨v, ss, rfl, hS, hrow, hnil, hb⟩))
  go_ret
  refine ⟨v, rfl, ?_, ((Below.refl _ w).alloc (Nat.le_refl _) _).trans (hb.mono (by simp))⟩
  have h1 := ownsRow_base_a hrow (show w.heap.size ≤ _ by simp)
  have h2 := vsort_eq G ss (hS.trans HP.out.symm)
  have h3 : ss.length = (vsort G).length := by rw [← h2]; exact (List.mergeSort_perm _ _).length_eq.symm
  rw [h2, h3] at h1
  exact h1
end Go.Proofs.Ytbnpmeaaaecciaa
/- unify: a closure's variables; questions of a closure that doesn't clash. -/
namespace Go.Proofs.Ytbnpmeaaaecciaa
open Go.RowKit
open Un (Else dg cnt own_else)
set_option maxRecDepth 100000
section
variable {O T : Nat → Prop} {w w' : World} {cb m : Nat} {G : List Gn} {E : List (Nat × Nat)} {st fs f : Int} {s : Sys} {b : Nat}
theorem vars_cs (h : CsM O w cb G E st fs m) (hl : G.length ≤ 1000000) (hg : GN G) :
    Calls Try.prog 62 #[.pointer (some ⟨cb, 0, none⟩)] w fun e w' => ∃ v', e = .returned v' ∧ w'.ownsRow w.heap.size 3 1 v' (vsort G).length (ints (vsort G)) ∧ Below w.heap.size w w' := by
  obtain ⟨⟨A, kn, nx, col, ro, hC, _⟩, _⟩ := h
  obtain ⟨hl0, _, _, _, c2, _, _⟩ := hC.cells
  have HV := Lib.hid (vars_graph w 0 A.g A.mb A.V A.L G hC.gr hl hg.1 hg.2)
  clear hC
  go_enter Try.func62, Try.ntmps62
  go_wp2_with fail
  refine HV.out.mono ?_
  rintro e w2 ⟨v', rfl, hr, hb⟩
  obtain ⟨Av, cv, rfl, _, _⟩ := Un.own_form hr
  have HR := Lib.hid (And.intro hr hb)
  clear hr hb HV
  go_wp2_with fail
  exact bodyPost_ret (results_tmp rfl _ _ _) rfl ⟨.slice Av (vsort G).length cv, rfl, HR.out.1, HR.out.2⟩
/-- A closure that doesn't clash; its forest's steps are bounded. -/
def CQ (O : Nat → Prop) (w : World) (cb : Nat) (s : Sys) (f : Int) : Prop := ∃ st fs m, CsM O w cb s.1 s.2 st fs m ∧ 0 ≤ fs ∧ fs ≤ f
theorem Clo.cq (h : Clo O w cb s b) (hn : ¬ Clash s.1 s.2) : CQ O w cb s (b * 100000000) := by
  rcases h with ⟨st, fs, m, hC, _, _, h3, h4⟩ | ⟨hc, _⟩
  · exact ⟨st, fs, m, hC, h3, h4⟩
  · exact absurd hc hn
theorem CQ.keep (h : CQ O w cb s f) (he : Else T w w') (ht : ∀ k, O k → ¬ T k) : CQ O w' cb s f := by
  obtain ⟨st, fs, m, hC, h2⟩ := h
  exact ⟨st, fs, m, hC.keep he ht, h2⟩
theorem CQ.more {f' : Int} (h : CQ O w cb s f) (hf : f ≤ f') : CQ O w cb s f' := by
  obtain ⟨st, fs, m, hC, h2, h3⟩ := h
  exact ⟨st, fs, m, hC, h2, by omega⟩
theorem CQ.below (h : CQ O w cb s f) (hb : Below w.heap.size w w') : CQ O w' cb s f := h.keep (T := fun _ => False) (Else.of_below hb) fun _ _ e => e
theorem same_cq (h : CQ O w cb s f) (hf : f ≤ 1000000000000) (hG : s.1.length ≤ 500000) (x y : Int) (hx : (Lit.int .i64 x).wf = true) (hy : (Lit.int .i64 y).wf = true) :
    Calls Try.prog 22 #[.pointer (some ⟨cb, 0, none⟩), .int .i64 x, .int .i64 y] w fun e w' => ∃ t : Bool, e = .returned (.bool t) ∧ (t = true ↔ SameIs s.1 s.2 x y) ∧ CQ O w' cb s (f + 42) ∧ Else O w w' := by
  obtain ⟨st, fs, m, hC, h2, h3⟩ := h
  refine (same_cs hC (by omega) hG x y hx hy).mono ?_
  rintro e w' ⟨t, k, rfl, ht, hk, hC', hE⟩
  have hd : dg s.1.length ≤ 21 := Un.dg_le (by omega)
  exact ⟨t, rfl, ht, ⟨st, _, m, hC', by omega, by omega⟩, hE⟩
theorem kind_cq (h : CQ O w cb s f) (hf : f ≤ 1000000000000) (hG : s.1.length ≤ 500000) (x : Int) (hx : (Lit.int .i64 x).wf = true) :
    Calls Try.prog 36 #[.pointer (some ⟨cb, 0, none⟩), .int .i64 x] w fun e w' => ∃ r : Int, e = .returned (.int .i64 r) ∧ KindIs s.1 s.2 x r ∧ CQ O w' cb s (f + 42) ∧ Else O w w' := by
  obtain ⟨st, fs, m, hC, h2, h3⟩ := h
  refine (kind_cs hC (by omega) x hx).mono ?_
  rintro e w' ⟨r, k, rfl, hr, hk, hC', hE⟩
  have hd : dg s.1.length ≤ 21 := Un.dg_le (by omega)
  exact ⟨r, rfl, hr, ⟨st, _, m, hC', by omega, by omega⟩, hE⟩
theorem err_clo (h : Clo O w cb s b) : Calls Try.prog 39 #[.pointer (some ⟨cb, 0, none⟩)] w fun e w' => (∃ r : Int, e = .returned (.int .i64 r) ∧ ((r = 7 ∧ Clash s.1 s.2) ∨ (r = 0 ∧ ¬ Clash s.1 s.2))) ∧ w' = w := by
  rcases h with ⟨st, fs, m, hC, _⟩ | ⟨hc, _, _, st, hx⟩
  · exact (err_cs hC).mono fun e w' ⟨h1, h2⟩ => ⟨⟨0, h1, .inr ⟨rfl, hC.noClash⟩⟩, h2⟩
  · exact (err_cx hx).mono fun e w' ⟨h1, h2⟩ => ⟨⟨7, h1, .inl ⟨rfl, hc⟩⟩, h2⟩
end
/-- A variable's node stays the first one. -/
theorem gvar_later {G X : List Gn} {v : Int} {i : Nat} (h : gvar G v = some i) : gvar (G ++ X) v = some i := by
  induction G generalizing i with
  | nil => cases h
  | cons x G ih =>
    simp only [gvar, List.cons_append] at h ⊢
    split at h
    · rename_i hx
      rw [if_pos hx]
      exact h
    · rename_i hx
      obtain ⟨j, hj, rfl⟩ := Option.map_eq_some_iff.1 h
      rw [if_neg hx, ih hj]
      rfl
theorem SameIs.later {s t : Sys} (hX : ∃ X, t.1 = s.1 ++ X) (hY : ∃ Y, t.2 = s.2 ++ Y) {a b : Int} (h : SameIs s.1 s.2 a b) : SameIs t.1 t.2 a b := by
  obtain ⟨i, j, h1, h2, h3⟩ := h
  obtain ⟨X, hX'⟩ := hX
  refine ⟨i, j, ?_, ?_, h3.later ⟨X, hX'⟩ hY⟩
  · rw [hX']; exact gvar_later h1
  · rw [hX']; exact gvar_later h2
/-- A kind that is known stays. -/
theorem KindIs.later {s t : Sys} (hX : ∃ X, t.1 = s.1 ++ X) (hY : ∃ Y, t.2 = s.2 ++ Y) (hn : ¬ Clash t.1 t.2) {v r r' : Int} (h : KindIs s.1 s.2 v r) (h' : KindIs t.1 t.2 v r') (h0 : r ≠ 0) : r' = r := by
  unfold KindIs at h h'
  cases hg : gvar s.1 v with
  | none => rw [hg] at h; exact absurd h h0
  | some i =>
    rw [hg] at h
    obtain ⟨X, hX'⟩ := hX
    have hg' : gvar t.1 v = some i := by rw [hX']; exact gvar_later hg
    rw [hg'] at h'
    rcases h with ⟨y, q, h1, h2, h3, rfl⟩ | ⟨h, _⟩
    · have h1' := Cl.later ⟨X, hX'⟩ hY h1
      have h2' : t.1[y]? = some q := by rw [hX']; exact app_get h2
      rcases h' with ⟨z, p, g1, g2, g3, rfl⟩ | ⟨_, g⟩
      · apply Decidable.byContradiction
        intro hne
        exact hn ⟨z, y, p, q, g1.symm.trans h1', g2, h2', g3, h3, fun e => hne e.1⟩
      · exact absurd (g y q h1' h2') h3
    · exact absurd h h0
end Go.Proofs.Ytbnpmeaaaecciaa
/- UnifyMore, walked. -/
namespace Go.Proofs.Ytbnpmeaaaecciaa
open Go.RowKit
open Un (Else dg cnt own_else)
set_option maxRecDepth 100000
theorem EqV.len_le {B : Nat} {w : World} {l : List Eqn} {v : Value} (h : EqV B w l v) : l.length ≤ 9223372036854775807 := by
  obtain ⟨A, c, _, h1, _⟩ := h
  by_cases h0 : 0 < l.length
  · obtain ⟨_, _, _, _, h2, h3, _⟩ := h1 h0
    unfold maxLen at h3
    omega
  · omega
/-- Two new closures. -/
theorem Two.new {w4 w5 w6 : World} {c d : Nat} (h5 : CsM (fun k => w4.heap.size ≤ k) w5 c [] [] 0 0 0) (hb5 : Below w4.heap.size w4 w5) (h6 : CsM (fun k => w5.heap.size ≤ k) w6 d [] [] 0 0 0) (hb6 : Below w5.heap.size w5 w6) : Two w4.heap.size w6 c d ([], []) ([], []) 0 := by
  obtain ⟨Oc, a1, a2⟩ := h5.tight
  obtain ⟨Od, b1, b2⟩ := h6.tight
  have hs5 := hb5.size
  have hs6 := hb6.size
  refine ⟨Oc, Od, .inl ⟨0, 0, 0, a2.below hb6, by omega, by omega, by omega, by omega⟩, .inl ⟨0, 0, 0, b2, by omega, by omega, by omega, by omega⟩, fun k hk => ?_, fun k hk => ?_, fun k hk hd => ?_⟩
  · have := a1 k hk; omega
  · have := b1 k hk; omega
  · have := a1 k hk
    have := b1 k hd
    omega
theorem two_err {w : World} {B b c d : Nat} {s t : Sys} (h : Two B w c d s t b) : Calls Try.prog 39 #[.pointer (some ⟨d, 0, none⟩)] w fun e w' => (∃ r : Int, e = .returned (.int .i64 r) ∧ ((r = 7 ∧ Clash t.1 t.2) ∨ (r = 0 ∧ ¬ Clash t.1 t.2))) ∧ w' = w := by
  obtain ⟨_, _, _, h2, _⟩ := h
  exact err_clo h2
theorem fold_take (m : List Eqn) (s : Sys) (j : Nat) (hj : j < m.length) : (m.take (j + 1)).foldl stp s = stp ((m.take j).foldl stp s) m[j] := by
  rw [List.take_add_one, List.getElem?_eq_getElem hj, List.foldl_append]
  rfl
theorem rt_of {l : List Eqn} {j : Nat} (hj : j < (rights l).length) : rtE (rights l)[j] = true := (List.mem_filter.1 (List.getElem_mem hj)).2
theorem sz_of {l : List Eqn} {j : Nat} (hj : j < l.length) : esz (l.take j) + sz1 l[j] ≤ esz l := by
  rw [← esz_step l j hj]
  exact esz_take l (j + 1)
theorem vsort_mem {G : List Gn} {i : Nat} {a : Int} (h : (vsort G)[i]? = some a) : a ∈ names G := by
  have hp := (vfold G [] List.Pairwise.nil).2
  have := hp.mem_iff.1 (List.mem_of_getElem? h)
  simpa using this
theorem vars_cq {O : Nat → Prop} {w : World} {cb : Nat} {s : Sys} {f : Int} (h : CQ O w cb s f) (hl : s.1.length ≤ 1000000) (hg : GN s.1) :
    Calls Try.prog 62 #[.pointer (some ⟨cb, 0, none⟩)] w fun e w' => ∃ v', e = .returned v' ∧ w'.ownsRow w.heap.size 3 1 v' (vsort s.1).length (ints (vsort s.1)) ∧ Below w.heap.size w w' := by
  obtain ⟨st, fs, m, hC, _⟩ := h
  exact vars_cs hC hl hg
theorem err_cq {O : Nat → Prop} {w : World} {cb : Nat} {s : Sys} {f : Int} (h : CQ O w cb s f) : Calls Try.prog 39 #[.pointer (some ⟨cb, 0, none⟩)] w fun e w' => e = .returned (.int .i64 0) ∧ w' = w := by
  obtain ⟨st, fs, m, hC, _⟩ := h
  exact err_cs hC
end Go.Proofs.Ytbnpmeaaaecciaa
