/- Texts of one proof, one behind the other. -/
import Derived.Test.YtojgiienohpaiaaGreatMgCycleTells20
import Derived.Test.YtojgiienohpaiaaGreatMgCycleTells17
import Derived.Test.YtojgiienohpaiaaGreatMgCycleTells28
import Derived.Test.YtojgiienohpaiaaGreatMgCycleTells24
import Derived.Test.YtojgiienohpaiaaGreatMgCycleTells15
import Derived.Test.YtojgiienohpaiaaGreatMgCycleTells29
import Derived.Test.YtojgiienohpaiaaGreatMgCycleTells27
namespace Go.Proofs.YtojgiienohpaiaaGreat
open Go.RowKit Go.Shelf
attribute [local go_sem ↓] builtin_app
set_option maxRecDepth 100000
theorem ints_at (L : List Int) (i : Nat) (a : Int) (h : L[i]? = some a) : (ints L)[i]? = some (.int .i64 a) := by simp [ints, h]
theorem Rd.int_at {w : World} {A : Option Addr} {n c : Nat} {L : List Int} (h : Rd w 1 (.slice A n c) n (ints L)) (i : Nat) (a : Int) (hi : L[i]? = some a) : ∃ b off, A = some ⟨b, off, none⟩ ∧ b < w.heap.size ∧ w.cell? ⟨b, off + i, none⟩ = some (.int .i64 a) := by
  have hin : i < n := by have h1 := h.1; rw [ints_len] at h1; have := (List.getElem?_eq_some_iff.1 hi).1; omega
  obtain ⟨b, off, cap, hv, _, _, hlt, hc⟩ := h.2.resolve_left (by rintro ⟨h, _⟩; omega)
  injection hv with hA _ _
  exact ⟨b, off, hA, hlt, hc i _ (ints_at L i a hi)⟩
theorem ints_take (L : List Int) (j : Nat) : ints (L.take j) = (ints L).take j := by simp [ints, List.map_take]
theorem ints_drop (L : List Int) (j : Nat) : ints (L.drop j) = (ints L).drop j := by simp [ints, List.map_drop]
set_option maxHeartbeats 8000000 in
theorem rvars11o (w : World) (v : Value) (M : List Rm) (hM : Rd w 4 v M.length (M.flatMap rmC)) (hl : M.length ≤ 100000) :
    Calls Tryz.prog 14 #[v] w fun e w' => ∃ v', e = .returned v' ∧ w'.ownsRow w.heap.size 3 1 v' (vsort (gM M)).length (ints (vsort (gM M))) ∧ Below w.heap.size w w' := by
  obtain ⟨A, c, rfl⟩ := hM.form
  obtain ⟨q, hq⟩ : ∃ q, M.length = q := ⟨_, rfl⟩
  rw [hq] at hl ⊢
  have hgl : (gM M).length = q := by simp [gM, hq]
  have HM := Lib.hid hM
  have HQ := Lib.hid (And.intro hq hgl)
  clear hM hq hgl
  go_enter Tryz.func14, Tryz.ntmps14
  go_wp2_with fail
  go_loopw [3, 4] (fun t3 t4 wr => ∃ j : Nat, j ≤ q ∧ t4 = .int .i64 j ∧ wr.ownsRow w.heap.size 3 1 t3 (vsort ((gM M).take j)).length (ints (vsort ((gM M).take j))) ∧ Below w.heap.size w wr) (fun _ t _ => q - (intOf t).toNat)
  case atStart => exact ⟨0, Nat.zero_le _, rfl, World.ownsRow_nil _ _ _ _, Below.refl _ _⟩
  case round =>
    obtain ⟨j, hj, rfl, hR, hb⟩ := hrel
    obtain ⟨A3, c3, rfl, -, -⟩ := own_form hR
    have HBW := Lib.hid hb
    have hz := hb.size
    have hvl := vsort_len ((gM M).take j)
    rw [List.length_take] at hvl
    by_cases hjl : j < q
    · have hjM : j < M.length := by rw [HQ.out.1]; exact hjl
      have hjG : j < (gM M).length := by rw [HQ.out.2]; exact hjl
      have hst := vsort_take (gM M) j hjG
      obtain ⟨b1, o1, cap1, hv1, _, _, hlt1, hc1⟩ := HM.out.2.resolve_left (by rintro ⟨h, _⟩; omega)
      injection hv1 with hA1 _ hcc1
      subst hA1; subst hcc1
      obtain ⟨p0, p1, -, -⟩ := rmC_at M j hjM
      have hgj : (gM M)[j] = rG M[j].1 := by simp [gM]
      obtain ⟨x, hx⟩ : ∃ x, M[j].1.1 = x := ⟨_, rfl⟩
      obtain ⟨y, hy⟩ : ∃ y, M[j].1.2.1 = y := ⟨_, rfl⟩
      rw [hx] at p0
      rw [hy] at p1
      have c0 : wr.cell? ⟨b1, o1 + j * 4, none⟩ = some (.int .i64 x) := (hb.cell (p := ⟨b1, o1 + j * 4, none⟩) hlt1).trans (hc1 _ _ p0)
      have c1 : wr.cell? ⟨b1, o1 + j * 4 + 1, none⟩ = some (.int .i64 y) := (hb.cell (p := ⟨b1, o1 + j * 4 + 1, none⟩) hlt1).trans (hc1 (j * 4 + 1) _ p1)
      have hG1 : (gM M)[j].1 = x := by rw [hgj]; exact hx
      have hG2 : (gM M)[j].2.1 = y := by rw [hgj]; exact hy
      obtain ⟨L, hL⟩ : ∃ L, vsort ((gM M).take j) = L := ⟨_, rfl⟩
      rw [hL] at hst hR hvl ⊢
      rw [vst, hG1, hG2] at hst
      obtain ⟨n, hn⟩ : ∃ n, L.length = n := ⟨_, rfl⟩
      rw [hn] at hR hvl ⊢
      have HST := Lib.hid hst
      have HR := Lib.hid hR
      have HN := Lib.hid hn
      have hn9 : n ≤ 100000 := by omega
      clear hst hR hx hy hc1 hgj p0 p1 hG1 hG2 hL hn hvl hb
      by_cases hx1 : x = 1
      · subst hx1
        generalize wr = wo at *
        go_wp2_with fail
        go_loopw [5] (fun t WW => ∃ k : Nat, k ≤ n ∧ t = .int .i64 k ∧ (∀ i a, i < k → L[i]? = some a → a < y) ∧ WW.heap = wo.heap ∧ Below wo.heap.size wo WW) (fun t _ => n - (intOf t).toNat)
        case atStart => exact ⟨0, Nat.zero_le _, rfl, fun i a h => by omega, rfl, Below.refl _ _⟩
        case round =>
          obtain ⟨k, hk, rfl, hlt, hhp, hbk⟩ := hrel
          have HLT := Lib.hid hlt
          have HBK := Lib.hid (And.intro hhp hbk)
          have d0 : wr.cell? ⟨b1, o1 + j * 4, none⟩ = some (.int .i64 1) := (hbk.cell (p := ⟨b1, o1 + j * 4, none⟩) (by simp only; omega)).trans c0
          have d1 : wr.cell? ⟨b1, o1 + j * 4 + 1, none⟩ = some (.int .i64 y) := (hbk.cell (p := ⟨b1, o1 + j * 4 + 1, none⟩) (by simp only; omega)).trans c1
          have HRK := Lib.hid ((Rd.of_own HR.out).below hbk)
          clear hlt hhp hbk
          by_cases hkn : k < n
          · obtain ⟨a, ha⟩ : ∃ a, L[k]? = some a := ⟨_, List.getElem?_eq_getElem (by rw [HN.out]; exact hkn)⟩
            obtain ⟨b3, o3, hA3, hlt3, e3⟩ := HRK.out.int_at k a ha
            subst hA3
            have HA := Lib.hid ha
            clear ha
            by_cases hay : a < y
            · have f1 : decide (a < y) = true := by simpa using hay
              go_wp2_with fail
              go_quiet (fail)
              go_wp2_with fail
              go_roundw
              case rel => exact ⟨k + 1, by omega, by go_num, fun i a' hi ha' => by
                  rcases Nat.lt_or_ge i k with h | h
                  · exact HLT.out i a' h ha'
                  · obtain rfl : i = k := by omega
                    rw [HA.out] at ha'
                    injection ha' with ha'
                    omega, HBK.out.1, below_drewN HBK.out.2 _⟩
              case measure => simp [intOf]; omega
            · have f1 : decide (a < y) = false := by simpa using hay
              have hins := insL_at L y k (by rw [HN.out]; exact hk) HLT.out (fun a' ha' => by rw [HA.out] at ha'; injection ha' with ha'; omega)
              have HINS := Lib.hid hins
              clear hins
              go_wp2_with fail
              go_quiet (fail)
              go_wp2_with fail
              have hlo := (HRK.out.lo k (by omega))
              have hhi := (HRK.out.hi k (by omega))
              rw [Nat.mul_one] at hlo hhi
              rw [← ints_take] at hlo
              rw [← ints_drop] at hhi
              rw [Option.map_some, Addr.add_lit] at hhi
              have hnc : n ≤ c3 := by
                rcases HRK.out.2 with ⟨h0, A', c', hv⟩ | ⟨b', o', cap', hv, h1, _⟩
                · omega
                · injection hv with _ _ h3; omega
              have hLk : (L.take k).length = k := by rw [List.length_take, HN.out]; omega
              have hLd : (L.drop k).length = n - k := by rw [List.length_drop, HN.out]
              have HLO := Lib.hid hlo
              have HHI := Lib.hid hhi
              have HLK := Lib.hid (And.intro hLk hLd)
              have EX := Lib.hid (show ∀ W, LS wr W → W.cell? ⟨b1, o1 + j * 4 + 1, none⟩ = some (.int .i64 y) from fun W hW => (Below.cell hW (p := ⟨b1, o1 + j * 4 + 1, none⟩) (by have := HBK.out.2.size; simp only; omega)).trans d1)
              clear hlo hhi hLk hLd
              refine wp_region_held (S := LS wr) (by kernel_rfl) ?_
              change wpAnyH _ _ _ _ _ 18 (List.replicate 18 false).toArray _ _
              have HLD := Lib.hid (show LS wr (wr.drewN nq).drew from (below_drewN (Below.refl _ _) _).drew)
              simp only [List.replicate_succ, List.replicate_zero]
              refine any_take (i := 1) (some 39) (.slice (some ⟨b3, o3, none⟩) n c3) rfl (by rfl) (by kernel_rfl) (by kernel_rfl) (by kernel_rfl) (fun _ _ _ h => h) (Or.inl ⟨by kernel_rfl, (fun w hw => by clear hw; go_simp)⟩) HLD.out ?_
              simp only [Act.put, List.setIfInBounds_toArray, List.set_cons_zero, List.set_cons_succ]
              refine any_take (i := 2) (some 40) (.int .i64 (k : Nat)) rfl (by rfl) (by kernel_rfl) (by kernel_rfl) (by kernel_rfl) (fun _ _ _ h => h) (Or.inl ⟨by kernel_rfl, (fun w hw => by clear hw; go_simp)⟩) HLD.out ?_
              simp only [Act.put, List.setIfInBounds_toArray, List.set_cons_zero, List.set_cons_succ]
              refine any_take (i := 3) (some 41) (.slice (some ⟨b3, o3, none⟩) k c3) rfl (by rfl) (by kernel_rfl) (by kernel_rfl) (by kernel_rfl) (fun _ _ _ h => h) (Or.inl ⟨by kernel_rfl, (fun w hw => by clear hw; go_simp <;> (intro h9; omega))⟩) HLD.out ?_
              simp only [Act.put, List.setIfInBounds_toArray, List.set_cons_zero, List.set_cons_succ]
              refine any_take (i := 5) (some 43) (.slice (some ⟨b1, o1, none⟩) q c) rfl (by rfl) (by kernel_rfl) (by kernel_rfl) (by kernel_rfl) (fun _ _ _ h => h) (Or.inl ⟨by kernel_rfl, (fun w hw => by clear hw; go_simp)⟩) HLD.out ?_
              simp only [Act.put, List.setIfInBounds_toArray, List.set_cons_zero, List.set_cons_succ]
              refine any_take (i := 6) (some 44) (.int .i64 (j : Nat)) rfl (by rfl) (by kernel_rfl) (by kernel_rfl) (by kernel_rfl) (fun _ _ _ h => h) (Or.inl ⟨by kernel_rfl, (fun w hw => by clear hw; go_simp)⟩) HLD.out ?_
              simp only [Act.put, List.setIfInBounds_toArray, List.set_cons_zero, List.set_cons_succ]
              refine any_take (i := 7) (some 45) (.pointer (some ⟨b1, o1 + j * 4, none⟩)) rfl (by rfl) (by kernel_rfl) (by kernel_rfl) (by kernel_rfl) (fun _ _ _ h => h) (Or.inl ⟨by kernel_rfl, (fun w hw => by clear hw; go_simp)⟩) HLD.out ?_
              simp only [Act.put, List.setIfInBounds_toArray, List.set_cons_zero, List.set_cons_succ]
              refine any_take (i := 8) (some 46) (.pointer (some ⟨b1, o1 + j * 4, none⟩)) rfl (by rfl) (by kernel_rfl) (by kernel_rfl) (by kernel_rfl) (fun _ _ _ h => h) (Or.inl ⟨by kernel_rfl, (fun w hw => by clear hw; go_simp)⟩) HLD.out ?_
              simp only [Act.put, List.setIfInBounds_toArray, List.set_cons_zero, List.set_cons_succ]
              refine any_take (i := 9) (some 47) (.pointer (some ⟨b1, o1 + j * 4 + 1, none⟩)) rfl (by rfl) (by kernel_rfl) (by kernel_rfl) (by kernel_rfl) (fun _ _ _ h => h) (Or.inl ⟨by kernel_rfl, (fun w hw => by clear hw; go_simp)⟩) HLD.out ?_
              simp only [Act.put, List.setIfInBounds_toArray, List.set_cons_zero, List.set_cons_succ]
              refine any_take (i := 10) (some 48) (.int .i64 y) rfl (by rfl) (by kernel_rfl) (by kernel_rfl) (by kernel_rfl) (fun _ _ _ h => h) (Or.inl ⟨by kernel_rfl, (fun w hw => by have m0 := EX.out w hw; clear hw; go_simp)⟩) HLD.out ?_
              simp only [Act.put, List.setIfInBounds_toArray, List.set_cons_zero, List.set_cons_succ]
              refine any_take (i := 13) (some 51) (.slice (some ⟨b3, o3, none⟩) n c3) rfl (by rfl) (by kernel_rfl) (by kernel_rfl) (by kernel_rfl) (fun _ _ _ h => h) (Or.inl ⟨by kernel_rfl, (fun w hw => by clear hw; go_simp)⟩) HLD.out ?_
              simp only [Act.put, List.setIfInBounds_toArray, List.set_cons_zero, List.set_cons_succ]
              refine any_take (i := 14) (some 52) (.int .i64 (k : Nat)) rfl (by rfl) (by kernel_rfl) (by kernel_rfl) (by kernel_rfl) (fun _ _ _ h => h) (Or.inl ⟨by kernel_rfl, (fun w hw => by clear hw; go_simp)⟩) HLD.out ?_
              simp only [Act.put, List.setIfInBounds_toArray, List.set_cons_zero, List.set_cons_succ]
              refine any_take (i := 15) (some 53) (.slice (if c3 = k then some ⟨b3, o3, none⟩ else some ⟨b3, o3 + k, none⟩) (n - k) (c3 - k)) rfl (by rfl) (by kernel_rfl) (by kernel_rfl) (by kernel_rfl) (fun _ _ _ h => h) (Or.inl ⟨by kernel_rfl, (fun w hw => by clear hw; go_simp)⟩) HLD.out ?_
              simp only [Act.put, List.setIfInBounds_toArray, List.set_cons_zero, List.set_cons_succ]
              obtain ⟨ti, hti, hz0, hz1, hz2⟩ := info_parts intInfo
              refine any_copy (i0 := 0) (i1 := 4) (i2 := 11) (i3 := 12) (d0 := 38) (d1 := 42) (d2 := 49) (d3 := 50) (ts := 41) (t := 30) (e := 3) (size := 1) rfl rfl rfl rfl rfl rfl rfl rfl rfl rfl rfl rfl (by decide) (by decide) (by simp) (by kernel_rfl) (by kernel_rfl) (by kernel_rfl) (by kernel_rfl) (by kernel_rfl) (by kernel_rfl)
                Tryz.underlying30 hti hz0 hz1 hz2 rfl (by omega) (fun ev w => by go_simp) [.int .i64 y] rfl (by intro u hu; simp only [List.mem_cons, List.not_mem_nil, or_false] at hu; subst hu; rfl)
                (fun a' ha w => by have h : a'.eval (.tmp 48) = .int .i64 y := (ha 48 (by decide) (by decide)).trans (by rfl); simp only [Act.eval, Array.getD_eq_getD_getElem?] at h; go_simp) (by rfl) (by rfl) (by rfl) (by rfl) (by rfl) (HLO.out.below HLD.out) (ints_one _) (by unfold maxLen; omega) (by omega) HLD.out ?_
              intro v0 v1 v2 v3 w' hLS hBw hown
              have hwz := HBK.out.2.size
              have hzd : wr.heap.size ≤ (wr.drewN nq).drew.heap.size := HLD.out.size
              have hown2 := own_mono hown (base' := w.heap.size) (Nat.le_trans (Nat.le_trans hz hwz) hzd)
              rw [← HLK.out.1] at hown2
              have hLS2 : Below wr.heap.size wr w' := hLS
              obtain ⟨v4, w4, hr4, ho4, hg4, -⟩ := run_append_rd (P := Tryz.prog) w' w.heap.size 30 30 3 ti _ 1 8 Tryz.underlying30 hti hz0 hz1 hz2 rfl (by omega) v3 _ _ hown2 _ (n - k) _ (HHI.out.below hLS2) (ints_one _) (by rw [HLK.out.1]; unfold maxLen; omega) (by rw [HLK.out.1]; omega) (by have := hLS2.size; omega)
              have hb4 : Below w.heap.size w' w4 := (Below.refl _ _).grown hg4 (by have := hLS2.size; omega) (fun b e => (hown2.lt b e).1)
              have hS4 : Below wr.heap.size w' w4 := (Below.refl _ _).grown hg4 hLS2.size (fun b e => Nat.le_trans hzd (hown.lt b e).1)
              have hLS4 : LS wr w4 := hLS2.trans hS4
              have HE := Lib.hid (And.intro ho4 (hLS2.trans hS4))
              clear hown hown2 hLS hLS2 hBw ho4 hg4 hb4 hS4
              simp only [Act.put, List.setIfInBounds_toArray, List.set_cons_zero, List.set_cons_succ]
              refine wpAnyH_all (rs := [16]) (by kernel_rfl) (by simp) fun q9 hq9 => ?_
              obtain rfl : q9 = 16 := by simpa using hq9
              refine ops_val (d := some 54) (v := v4) (w' := w4) rfl (by rfl) (by kernel_rfl) (exec_append (t := 30) (by rfl) (by rfl) (by rfl) hr4) hLS4 ?_
              simp only [Act.put, List.setIfInBounds_toArray, List.set_cons_zero, List.set_cons_succ]
              refine any_take (i := 17) (some 3) v4 rfl (by rfl) (by kernel_rfl) (by kernel_rfl) (by kernel_rfl) (fun _ _ _ h => h) (Or.inl ⟨by kernel_rfl, (fun w hw => by clear hw; go_simp)⟩) hLS4 ?_
              simp only [Act.put, List.setIfInBounds_toArray, List.set_cons_zero, List.set_cons_succ]
              refine wpAnyH_done (by kernel_rfl) ?_ _
              go_wp2_with fail
              go_roundw
              case rel =>
                have h := HST.out
                first | rw [if_pos rfl, HINS.out] at h | rw [if_pos trivial, HINS.out] at h
                have ho := HE.out.1
                rw [HLK.out.1] at ho
                refine ⟨j + 1, by omega, by go_num, ?_, HBW.out.trans ((HBK.out.2.trans (HE.out.2.mono HBK.out.2.size)).mono hz)⟩
                rw [h]
                have e1 : ints (L.take k ++ y :: L.drop k) = ints (L.take k) ++ [.int .i64 y] ++ ints (L.drop k) := by simp [ints]
                have e2 : (L.take k ++ y :: L.drop k).length = k + 1 + (n - k) := by rw [List.length_append, List.length_cons, HLK.out.1, HLK.out.2] <;> omega
                rw [e1, e2]
                exact ho
              case measure => simp [intOf]; omega
          · obtain rfl : k = n := by omega
            have hins := insL_at L y k (by rw [HN.out]; exact Nat.le_refl _) HLT.out (fun a' ha' => by have := (List.getElem?_eq_some_iff.1 ha').1; have := HN.out; omega)
            have HINS := Lib.hid hins
            clear hins
            rcases HR.out.2 with ⟨hv, hn0⟩ | ⟨g3, cap3, cur3, hv, -, -, -, -, -, -⟩
            · injection hv with hv1 hv2 hv3
              subst hv1 hv3 hn0
              clear hv2
              go_wp2_with fail
              go_quiet (fail)
              go_wp2_with fail
              have hlo := (HRK.out.lo 0 (by omega))
              have hhi := (HRK.out.hi 0 (by omega))
              rw [Nat.mul_one] at hlo hhi
              rw [← ints_take] at hlo
              rw [← ints_drop] at hhi
              simp only [if_true, Nat.sub_self] at hhi
              have hnc : 0 ≤ 0 := Nat.le_refl _
              have hLk : (L.take 0).length = 0 := by rw [List.length_take, HN.out]; omega
              have hLd : (L.drop 0).length = 0 - 0 := by rw [List.length_drop, HN.out]
              have HLO := Lib.hid hlo
              have HHI := Lib.hid hhi
              have HLK := Lib.hid (And.intro hLk hLd)
              have EX := Lib.hid (show ∀ W, LS wr W → W.cell? ⟨b1, o1 + j * 4 + 1, none⟩ = some (.int .i64 y) from fun W hW => (Below.cell hW (p := ⟨b1, o1 + j * 4 + 1, none⟩) (by have := HBK.out.2.size; simp only; omega)).trans d1)
              clear hlo hhi hLk hLd
              refine wp_region_held (S := LS wr) (by kernel_rfl) ?_
              change wpAnyH _ _ _ _ _ 18 (List.replicate 18 false).toArray _ _
              have HLD := Lib.hid (show LS wr (wr.drewN nq).drew from (below_drewN (Below.refl _ _) _).drew)
              simp only [List.replicate_succ, List.replicate_zero]
              refine any_take (i := 1) (some 39) (.slice none 0 0) rfl (by rfl) (by kernel_rfl) (by kernel_rfl) (by kernel_rfl) (fun _ _ _ h => h) (Or.inl ⟨by kernel_rfl, (fun w hw => by clear hw; go_simp)⟩) HLD.out ?_
              simp only [Act.put, List.setIfInBounds_toArray, List.set_cons_zero, List.set_cons_succ]
              refine any_take (i := 2) (some 40) (.int .i64 ((0 : Nat) : Int)) rfl (by rfl) (by kernel_rfl) (by kernel_rfl) (by kernel_rfl) (fun _ _ _ h => h) (Or.inl ⟨by kernel_rfl, (fun w hw => by clear hw; go_simp)⟩) HLD.out ?_
              simp only [Act.put, List.setIfInBounds_toArray, List.set_cons_zero, List.set_cons_succ]
              refine any_take (i := 3) (some 41) (.slice none 0 0) rfl (by rfl) (by kernel_rfl) (by kernel_rfl) (by kernel_rfl) (fun _ _ _ h => h) (Or.inl ⟨by kernel_rfl, (fun w hw => by clear hw; go_simp)⟩) HLD.out ?_
              simp only [Act.put, List.setIfInBounds_toArray, List.set_cons_zero, List.set_cons_succ]
              refine any_take (i := 5) (some 43) (.slice (some ⟨b1, o1, none⟩) q c) rfl (by rfl) (by kernel_rfl) (by kernel_rfl) (by kernel_rfl) (fun _ _ _ h => h) (Or.inl ⟨by kernel_rfl, (fun w hw => by clear hw; go_simp)⟩) HLD.out ?_
              simp only [Act.put, List.setIfInBounds_toArray, List.set_cons_zero, List.set_cons_succ]
              refine any_take (i := 6) (some 44) (.int .i64 (j : Nat)) rfl (by rfl) (by kernel_rfl) (by kernel_rfl) (by kernel_rfl) (fun _ _ _ h => h) (Or.inl ⟨by kernel_rfl, (fun w hw => by clear hw; go_simp)⟩) HLD.out ?_
              simp only [Act.put, List.setIfInBounds_toArray, List.set_cons_zero, List.set_cons_succ]
              refine any_take (i := 7) (some 45) (.pointer (some ⟨b1, o1 + j * 4, none⟩)) rfl (by rfl) (by kernel_rfl) (by kernel_rfl) (by kernel_rfl) (fun _ _ _ h => h) (Or.inl ⟨by kernel_rfl, (fun w hw => by clear hw; go_simp)⟩) HLD.out ?_
              simp only [Act.put, List.setIfInBounds_toArray, List.set_cons_zero, List.set_cons_succ]
              refine any_take (i := 8) (some 46) (.pointer (some ⟨b1, o1 + j * 4, none⟩)) rfl (by rfl) (by kernel_rfl) (by kernel_rfl) (by kernel_rfl) (fun _ _ _ h => h) (Or.inl ⟨by kernel_rfl, (fun w hw => by clear hw; go_simp)⟩) HLD.out ?_
              simp only [Act.put, List.setIfInBounds_toArray, List.set_cons_zero, List.set_cons_succ]
              refine any_take (i := 9) (some 47) (.pointer (some ⟨b1, o1 + j * 4 + 1, none⟩)) rfl (by rfl) (by kernel_rfl) (by kernel_rfl) (by kernel_rfl) (fun _ _ _ h => h) (Or.inl ⟨by kernel_rfl, (fun w hw => by clear hw; go_simp)⟩) HLD.out ?_
              simp only [Act.put, List.setIfInBounds_toArray, List.set_cons_zero, List.set_cons_succ]
              refine any_take (i := 10) (some 48) (.int .i64 y) rfl (by rfl) (by kernel_rfl) (by kernel_rfl) (by kernel_rfl) (fun _ _ _ h => h) (Or.inl ⟨by kernel_rfl, (fun w hw => by have m0 := EX.out w hw; clear hw; go_simp)⟩) HLD.out ?_
              simp only [Act.put, List.setIfInBounds_toArray, List.set_cons_zero, List.set_cons_succ]
              refine any_take (i := 13) (some 51) (.slice none 0 0) rfl (by rfl) (by kernel_rfl) (by kernel_rfl) (by kernel_rfl) (fun _ _ _ h => h) (Or.inl ⟨by kernel_rfl, (fun w hw => by clear hw; go_simp)⟩) HLD.out ?_
              simp only [Act.put, List.setIfInBounds_toArray, List.set_cons_zero, List.set_cons_succ]
              refine any_take (i := 14) (some 52) (.int .i64 ((0 : Nat) : Int)) rfl (by rfl) (by kernel_rfl) (by kernel_rfl) (by kernel_rfl) (fun _ _ _ h => h) (Or.inl ⟨by kernel_rfl, (fun w hw => by clear hw; go_simp)⟩) HLD.out ?_
              simp only [Act.put, List.setIfInBounds_toArray, List.set_cons_zero, List.set_cons_succ]
              refine any_take (i := 15) (some 53) (.slice none 0 0) rfl (by rfl) (by kernel_rfl) (by kernel_rfl) (by kernel_rfl) (fun _ _ _ h => h) (Or.inl ⟨by kernel_rfl, (fun w hw => by clear hw; go_simp)⟩) HLD.out ?_
              simp only [Act.put, List.setIfInBounds_toArray, List.set_cons_zero, List.set_cons_succ]
              obtain ⟨ti, hti, hz0, hz1, hz2⟩ := info_parts intInfo
              refine any_copy (i0 := 0) (i1 := 4) (i2 := 11) (i3 := 12) (d0 := 38) (d1 := 42) (d2 := 49) (d3 := 50) (ts := 41) (t := 30) (e := 3) (size := 1) rfl rfl rfl rfl rfl rfl rfl rfl rfl rfl rfl rfl (by decide) (by decide) (by simp) (by kernel_rfl) (by kernel_rfl) (by kernel_rfl) (by kernel_rfl) (by kernel_rfl) (by kernel_rfl)
                Tryz.underlying30 hti hz0 hz1 hz2 rfl (by omega) (fun ev w => by go_simp) [.int .i64 y] rfl (by intro u hu; simp only [List.mem_cons, List.not_mem_nil, or_false] at hu; subst hu; rfl)
                (fun a' ha w => by have h : a'.eval (.tmp 48) = .int .i64 y := (ha 48 (by decide) (by decide)).trans (by rfl); simp only [Act.eval, Array.getD_eq_getD_getElem?] at h; go_simp) (by rfl) (by rfl) (by rfl) (by rfl) (by rfl) (HLO.out.below HLD.out) (ints_one _) (by unfold maxLen; omega) (by omega) HLD.out ?_
              intro v0 v1 v2 v3 w' hLS hBw hown
              have hwz := HBK.out.2.size
              have hzd : wr.heap.size ≤ (wr.drewN nq).drew.heap.size := HLD.out.size
              have hown2 := own_mono hown (base' := w.heap.size) (Nat.le_trans (Nat.le_trans hz hwz) hzd)
              rw [← HLK.out.1] at hown2
              have hLS2 : Below wr.heap.size wr w' := hLS
              obtain ⟨v4, w4, hr4, ho4, hg4, -⟩ := run_append_rd (P := Tryz.prog) w' w.heap.size 30 30 3 ti _ 1 8 Tryz.underlying30 hti hz0 hz1 hz2 rfl (by omega) v3 _ _ hown2 _ (0 - 0) _ (HHI.out.below hLS2) (ints_one _) (by rw [HLK.out.1]; unfold maxLen; omega) (by rw [HLK.out.1]; omega) (by have := hLS2.size; omega)
              have hb4 : Below w.heap.size w' w4 := (Below.refl _ _).grown hg4 (by have := hLS2.size; omega) (fun b e => (hown2.lt b e).1)
              have hS4 : Below wr.heap.size w' w4 := (Below.refl _ _).grown hg4 hLS2.size (fun b e => Nat.le_trans hzd (hown.lt b e).1)
              have hLS4 : LS wr w4 := hLS2.trans hS4
              have HE := Lib.hid (And.intro ho4 (hLS2.trans hS4))
              clear hown hown2 hLS hLS2 hBw ho4 hg4 hb4 hS4
              simp only [Act.put, List.setIfInBounds_toArray, List.set_cons_zero, List.set_cons_succ]
              refine wpAnyH_all (rs := [16]) (by kernel_rfl) (by simp) fun q9 hq9 => ?_
              obtain rfl : q9 = 16 := by simpa using hq9
              refine ops_val (d := some 54) (v := v4) (w' := w4) rfl (by rfl) (by kernel_rfl) (exec_append (t := 30) (by rfl) (by rfl) (by rfl) hr4) hLS4 ?_
              simp only [Act.put, List.setIfInBounds_toArray, List.set_cons_zero, List.set_cons_succ]
              refine any_take (i := 17) (some 3) v4 rfl (by rfl) (by kernel_rfl) (by kernel_rfl) (by kernel_rfl) (fun _ _ _ h => h) (Or.inl ⟨by kernel_rfl, (fun w hw => by clear hw; go_simp)⟩) hLS4 ?_
              simp only [Act.put, List.setIfInBounds_toArray, List.set_cons_zero, List.set_cons_succ]
              refine wpAnyH_done (by kernel_rfl) ?_ _
              go_wp2_with fail
              go_roundw
              case rel =>
                have h := HST.out
                first | rw [if_pos rfl, HINS.out] at h | rw [if_pos trivial, HINS.out] at h
                have ho := HE.out.1
                rw [HLK.out.1] at ho
                refine ⟨j + 1, by omega, by go_num, ?_, HBW.out.trans ((HBK.out.2.trans (HE.out.2.mono HBK.out.2.size)).mono hz)⟩
                rw [h]
                have e1 : ints (L.take 0 ++ y :: L.drop 0) = ints (L.take 0) ++ [.int .i64 y] ++ ints (L.drop 0) := by simp [ints]
                have e2 : (L.take 0 ++ y :: L.drop 0).length = 0 + 1 + (0 - 0) := by rw [List.length_append, List.length_cons, HLK.out.1, HLK.out.2] <;> omega
                rw [e1, e2]
                exact ho
              case measure => simp [intOf]; omega
            · injection hv with hv1 hv2 hv3
              subst hv1
              clear hv2 hv3
              go_wp2_with fail
              go_quiet (fail)
              go_wp2_with fail
              have hlo := (HRK.out.lo k (by omega))
              have hhi := (HRK.out.hi k (by omega))
              rw [Nat.mul_one] at hlo hhi
              rw [← ints_take] at hlo
              rw [← ints_drop] at hhi
              rw [Option.map_some, Addr.add_lit] at hhi
              have hnc : k ≤ c3 := by
                rcases HRK.out.2 with ⟨h0, A', c', hv⟩ | ⟨b', o', cap', hv, h1, _⟩
                · omega
                · injection hv with _ _ h3; omega
              have hLk : (L.take k).length = k := by rw [List.length_take, HN.out]; omega
              have hLd : (L.drop k).length = k - k := by rw [List.length_drop, HN.out]
              have HLO := Lib.hid hlo
              have HHI := Lib.hid hhi
              have HLK := Lib.hid (And.intro hLk hLd)
              have EX := Lib.hid (show ∀ W, LS wr W → W.cell? ⟨b1, o1 + j * 4 + 1, none⟩ = some (.int .i64 y) from fun W hW => (Below.cell hW (p := ⟨b1, o1 + j * 4 + 1, none⟩) (by have := HBK.out.2.size; simp only; omega)).trans d1)
              clear hlo hhi hLk hLd
              refine wp_region_held (S := LS wr) (by kernel_rfl) ?_
              change wpAnyH _ _ _ _ _ 18 (List.replicate 18 false).toArray _ _
              have HLD := Lib.hid (show LS wr (wr.drewN nq).drew from (below_drewN (Below.refl _ _) _).drew)
              simp only [List.replicate_succ, List.replicate_zero]
              refine any_take (i := 1) (some 39) (.slice (some ⟨g3, 0, none⟩) k c3) rfl (by rfl) (by kernel_rfl) (by kernel_rfl) (by kernel_rfl) (fun _ _ _ h => h) (Or.inl ⟨by kernel_rfl, (fun w hw => by clear hw; go_simp)⟩) HLD.out ?_
              simp only [Act.put, List.setIfInBounds_toArray, List.set_cons_zero, List.set_cons_succ]
              refine any_take (i := 2) (some 40) (.int .i64 (k : Nat)) rfl (by rfl) (by kernel_rfl) (by kernel_rfl) (by kernel_rfl) (fun _ _ _ h => h) (Or.inl ⟨by kernel_rfl, (fun w hw => by clear hw; go_simp)⟩) HLD.out ?_
              simp only [Act.put, List.setIfInBounds_toArray, List.set_cons_zero, List.set_cons_succ]
              refine any_take (i := 3) (some 41) (.slice (some ⟨g3, 0, none⟩) k c3) rfl (by rfl) (by kernel_rfl) (by kernel_rfl) (by kernel_rfl) (fun _ _ _ h => h) (Or.inl ⟨by kernel_rfl, (fun w hw => by clear hw; go_simp <;> (intro h9; omega))⟩) HLD.out ?_
              simp only [Act.put, List.setIfInBounds_toArray, List.set_cons_zero, List.set_cons_succ]
              refine any_take (i := 5) (some 43) (.slice (some ⟨b1, o1, none⟩) q c) rfl (by rfl) (by kernel_rfl) (by kernel_rfl) (by kernel_rfl) (fun _ _ _ h => h) (Or.inl ⟨by kernel_rfl, (fun w hw => by clear hw; go_simp)⟩) HLD.out ?_
              simp only [Act.put, List.setIfInBounds_toArray, List.set_cons_zero, List.set_cons_succ]
              refine any_take (i := 6) (some 44) (.int .i64 (j : Nat)) rfl (by rfl) (by kernel_rfl) (by kernel_rfl) (by kernel_rfl) (fun _ _ _ h => h) (Or.inl ⟨by kernel_rfl, (fun w hw => by clear hw; go_simp)⟩) HLD.out ?_
              simp only [Act.put, List.setIfInBounds_toArray, List.set_cons_zero, List.set_cons_succ]
              refine any_take (i := 7) (some 45) (.pointer (some ⟨b1, o1 + j * 4, none⟩)) rfl (by rfl) (by kernel_rfl) (by kernel_rfl) (by kernel_rfl) (fun _ _ _ h => h) (Or.inl ⟨by kernel_rfl, (fun w hw => by clear hw; go_simp)⟩) HLD.out ?_
              simp only [Act.put, List.setIfInBounds_toArray, List.set_cons_zero, List.set_cons_succ]
              refine any_take (i := 8) (some 46) (.pointer (some ⟨b1, o1 + j * 4, none⟩)) rfl (by rfl) (by kernel_rfl) (by kernel_rfl) (by kernel_rfl) (fun _ _ _ h => h) (Or.inl ⟨by kernel_rfl, (fun w hw => by clear hw; go_simp)⟩) HLD.out ?_
              simp only [Act.put, List.setIfInBounds_toArray, List.set_cons_zero, List.set_cons_succ]
              refine any_take (i := 9) (some 47) (.pointer (some ⟨b1, o1 + j * 4 + 1, none⟩)) rfl (by rfl) (by kernel_rfl) (by kernel_rfl) (by kernel_rfl) (fun _ _ _ h => h) (Or.inl ⟨by kernel_rfl, (fun w hw => by clear hw; go_simp)⟩) HLD.out ?_
              simp only [Act.put, List.setIfInBounds_toArray, List.set_cons_zero, List.set_cons_succ]
              refine any_take (i := 10) (some 48) (.int .i64 y) rfl (by rfl) (by kernel_rfl) (by kernel_rfl) (by kernel_rfl) (fun _ _ _ h => h) (Or.inl ⟨by kernel_rfl, (fun w hw => by have m0 := EX.out w hw; clear hw; go_simp)⟩) HLD.out ?_
              simp only [Act.put, List.setIfInBounds_toArray, List.set_cons_zero, List.set_cons_succ]
              refine any_take (i := 13) (some 51) (.slice (some ⟨g3, 0, none⟩) k c3) rfl (by rfl) (by kernel_rfl) (by kernel_rfl) (by kernel_rfl) (fun _ _ _ h => h) (Or.inl ⟨by kernel_rfl, (fun w hw => by clear hw; go_simp)⟩) HLD.out ?_
              simp only [Act.put, List.setIfInBounds_toArray, List.set_cons_zero, List.set_cons_succ]
              refine any_take (i := 14) (some 52) (.int .i64 (k : Nat)) rfl (by rfl) (by kernel_rfl) (by kernel_rfl) (by kernel_rfl) (fun _ _ _ h => h) (Or.inl ⟨by kernel_rfl, (fun w hw => by clear hw; go_simp)⟩) HLD.out ?_
              simp only [Act.put, List.setIfInBounds_toArray, List.set_cons_zero, List.set_cons_succ]
              refine any_take (i := 15) (some 53) (.slice (if c3 = k then some ⟨g3, 0, none⟩ else some ⟨g3, 0 + k, none⟩) (k - k) (c3 - k)) rfl (by rfl) (by kernel_rfl) (by kernel_rfl) (by kernel_rfl) (fun _ _ _ h => h) (Or.inl ⟨by kernel_rfl, (fun w hw => by clear hw; go_simp)⟩) HLD.out ?_
              simp only [Act.put, List.setIfInBounds_toArray, List.set_cons_zero, List.set_cons_succ]
              obtain ⟨ti, hti, hz0, hz1, hz2⟩ := info_parts intInfo
              refine any_copy (i0 := 0) (i1 := 4) (i2 := 11) (i3 := 12) (d0 := 38) (d1 := 42) (d2 := 49) (d3 := 50) (ts := 41) (t := 30) (e := 3) (size := 1) rfl rfl rfl rfl rfl rfl rfl rfl rfl rfl rfl rfl (by decide) (by decide) (by simp) (by kernel_rfl) (by kernel_rfl) (by kernel_rfl) (by kernel_rfl) (by kernel_rfl) (by kernel_rfl)
                Tryz.underlying30 hti hz0 hz1 hz2 rfl (by omega) (fun ev w => by go_simp) [.int .i64 y] rfl (by intro u hu; simp only [List.mem_cons, List.not_mem_nil, or_false] at hu; subst hu; rfl)
                (fun a' ha w => by have h : a'.eval (.tmp 48) = .int .i64 y := (ha 48 (by decide) (by decide)).trans (by rfl); simp only [Act.eval, Array.getD_eq_getD_getElem?] at h; go_simp) (by rfl) (by rfl) (by rfl) (by rfl) (by rfl) (HLO.out.below HLD.out) (ints_one _) (by unfold maxLen; omega) (by omega) HLD.out ?_
              intro v0 v1 v2 v3 w' hLS hBw hown
              have hwz := HBK.out.2.size
              have hzd : wr.heap.size ≤ (wr.drewN nq).drew.heap.size := HLD.out.size
              have hown2 := own_mono hown (base' := w.heap.size) (Nat.le_trans (Nat.le_trans hz hwz) hzd)
              rw [← HLK.out.1] at hown2
              have hLS2 : Below wr.heap.size wr w' := hLS
              obtain ⟨v4, w4, hr4, ho4, hg4, -⟩ := run_append_rd (P := Tryz.prog) w' w.heap.size 30 30 3 ti _ 1 8 Tryz.underlying30 hti hz0 hz1 hz2 rfl (by omega) v3 _ _ hown2 _ (k - k) _ (HHI.out.below hLS2) (ints_one _) (by rw [HLK.out.1]; unfold maxLen; omega) (by rw [HLK.out.1]; omega) (by have := hLS2.size; omega)
              have hb4 : Below w.heap.size w' w4 := (Below.refl _ _).grown hg4 (by have := hLS2.size; omega) (fun b e => (hown2.lt b e).1)
              have hS4 : Below wr.heap.size w' w4 := (Below.refl _ _).grown hg4 hLS2.size (fun b e => Nat.le_trans hzd (hown.lt b e).1)
              have hLS4 : LS wr w4 := hLS2.trans hS4
              have HE := Lib.hid (And.intro ho4 (hLS2.trans hS4))
              clear hown hown2 hLS hLS2 hBw ho4 hg4 hb4 hS4
              simp only [Act.put, List.setIfInBounds_toArray, List.set_cons_zero, List.set_cons_succ]
              refine wpAnyH_all (rs := [16]) (by kernel_rfl) (by simp) fun q9 hq9 => ?_
              obtain rfl : q9 = 16 := by simpa using hq9
              refine ops_val (d := some 54) (v := v4) (w' := w4) rfl (by rfl) (by kernel_rfl) (exec_append (t := 30) (by rfl) (by rfl) (by rfl) hr4) hLS4 ?_
              simp only [Act.put, List.setIfInBounds_toArray, List.set_cons_zero, List.set_cons_succ]
              refine any_take (i := 17) (some 3) v4 rfl (by rfl) (by kernel_rfl) (by kernel_rfl) (by kernel_rfl) (fun _ _ _ h => h) (Or.inl ⟨by kernel_rfl, (fun w hw => by clear hw; go_simp)⟩) hLS4 ?_
              simp only [Act.put, List.setIfInBounds_toArray, List.set_cons_zero, List.set_cons_succ]
              refine wpAnyH_done (by kernel_rfl) ?_ _
              go_wp2_with fail
              go_roundw
              case rel =>
                have h := HST.out
                first | rw [if_pos rfl, HINS.out] at h | rw [if_pos trivial, HINS.out] at h
                have ho := HE.out.1
                rw [HLK.out.1] at ho
                refine ⟨j + 1, by omega, by go_num, ?_, HBW.out.trans ((HBK.out.2.trans (HE.out.2.mono HBK.out.2.size)).mono hz)⟩
                rw [h]
                have e1 : ints (L.take k ++ y :: L.drop k) = ints (L.take k) ++ [.int .i64 y] ++ ints (L.drop k) := by simp [ints]
                have e2 : (L.take k ++ y :: L.drop k).length = k + 1 + (k - k) := by rw [List.length_append, List.length_cons, HLK.out.1, HLK.out.2] <;> omega
                rw [e1, e2]
                exact ho
              case measure => simp [intOf]; omega
      · have f2 : (x != 1) = true := by simpa using hx1
        go_wp2_with fail
        go_roundw
        case rel =>
          have h := HST.out
          rw [if_neg hx1] at h
          exact ⟨j + 1, by omega, by go_num, by rw [h, HN.out]; exact HR.out, HBW.out⟩
        case measure => simp [intOf]; omega
    · obtain rfl : j = q := by omega
      rw [List.take_of_length_le (by rw [HQ.out.2]; exact Nat.le_refl _)] at hR ⊢
      have HR := Lib.hid hR
      clear hR hvl hb
      go_wp2_with fail
      go_ret
      exact ⟨_, rfl, HR.out, HBW.out⟩
end Go.Proofs.YtojgiienohpaiaaGreat
namespace Go.Proofs.YtojgiienohpaiaaGreat
open Go.RowKit
attribute [local go_sem] Oper.semAt_some
attribute [local go_sem ↓] builtin_app
open Un (rowI rowI_get own_shape paint)
set_option maxRecDepth 100000
def RKind (G : List Gn) (c : Nat → Nat) (i : Nat) (r : Int) : Prop :=
  (∃ (k : Nat) (p : Gn), G[k]? = some p ∧ c k = c i ∧ p.1 ≠ 1 ∧ r = p.1) ∨ (r = 0 ∧ ∀ (k : Nat) (p : Gn), G[k]? = some p → c k = c i → p.1 = 1)
def selC (G : List Gn) (c : Nat → Nat) (i : Nat) (a : Int) : Bool := c (ivar G a).toNat == c i
end Go.Proofs.YtojgiienohpaiaaGreat
namespace Go.Proofs.YtojgiienohpaiaaGreat
open Go.RowKit
open Un (rowI rowI_get own_shape paint Else)
set_option maxRecDepth 100000
def GK (G : List Gn) : Prop := ∀ p ∈ G, p.1 ≠ 0
theorem gnode_GK {G : List Gn} {k n : Int} {P : List Nat} (h : GK G) (hk : k ≠ 0) : GK (gnode G k n P).1 := by
  unfold gnode
  split
  · exact h
  · intro p hp
    rcases List.mem_append.1 hp with hp | hp
    · exact h p hp
    · simp only [List.mem_singleton] at hp
      subst hp
      exact hk
theorem alone_kind {k n : Int} {m : Nat} (h : alone k n m = true) : k ≠ 0 := by
  rintro rfl
  simp [alone] at h
theorem gadd_GK (F : Fo) : ∀ G, GK G → (∀ x ∈ F.pre, alone x.1 x.2.1 x.2.2.2.1 = true) → GK (gadd G F).1 := by
  induction F with
  | nil => intro G h _; rw [gadd_nil]; exact h
  | cons k n u ps r i1 i2 =>
    intro G h hw
    rw [gadd_cons]
    refine i2 _ ?_ fun x hx => hw x (by simp [Fo.pre, hx])
    rw [gadd1_eq]
    exact gnode_GK (i1 G h fun x hx => hw x (by simp [Fo.pre, hx])) (alone_kind (hw (k, n, u) (by simp [Fo.pre])))
theorem gadd1_GK {G : List Gn} {t : Ty1} (h : GK G) (hr : rt1 t = true) : GK (gadd1 G t.1 t.2.1 t.2.2.2).1 := by
  unfold rt1 at hr
  rw [Bool.and_eq_true] at hr
  rw [gadd1_eq]
  refine gnode_GK (gadd_GK _ _ h ?_) (alone_kind hr.1)
  have := hr.2
  unfold allAlone at this
  rw [List.all_eq_true] at this
  exact this
theorem fold_GK (m : List Eqn) : ∀ s : Sys, GK s.1 → (∀ y ∈ m, rtE y = true) → GK (m.foldl stp s).1 := by
  induction m with
  | nil => intro s h _; exact h
  | cons x m ih =>
    intro s h hw
    refine ih _ ?_ fun y hy => hw y (List.mem_cons_of_mem _ hy)
    have hx := hw x List.mem_cons_self
    unfold rtE at hx
    rw [Bool.and_eq_true] at hx
    exact gadd1_GK (t := x.2.1) (gadd1_GK (t := x.1) h hx.1) hx.2
theorem cls_GK (l : List Eqn) (h : ∀ y ∈ l, rtE y = true) : GK (cls l).1 := fold_GK l _ (fun p hp => by simp at hp) h
structure Both (G : List Gn) (col ro : Nat → Nat) (kn : Kn) (E : List (Nat × Nat)) (cc : Nat → Nat) : Prop where
  js : Js G G.length col ro kn E []
  rc : Rc G cc E
  he : ∀ a b, (a, b) ∈ E → a < G.length ∧ b < G.length ∧ cc a = cc b
  hc : ClosedC G cc
  gn : GN G
  gk : GK G
  nc : ¬ Clash G E
section PaBs
variable {G : List Gn} {col ro : Nat → Nat} {kn : Kn} {E : List (Nat × Nat)} {cc : Nat → Nat} {i j : Nat}
theorem Both.cl (h : Both G col ro kn E cc) (hi : i < G.length) (hj : j < G.length) : Cl G E i j ↔ cc i = cc j := by
  rw [h.rc.is h.he h.hc]
  constructor
  · rintro (rfl | ⟨_, _, e⟩)
    · rfl
    · exact e
  · exact fun e => .inr ⟨hi, hj, e⟩
end PaBs
end Go.Proofs.YtojgiienohpaiaaGreat
namespace Go.Proofs.YtojgiienohpaiaaGreat
open Un (cnt)
def Cs (G : List Gn) (cc : Nat → Nat) (a b : Nat) : Prop := ∃ (k : Nat) (p : Gn) (u : Nat), G[k]? = some p ∧ cc k = a ∧ p.1 ≠ 1 ∧ u ∈ p.2.2.2 ∧ cc u = b
inductive Cp (G : List Gn) (cc : Nat → Nat) : Nat → Nat → Prop
  | one {a b : Nat} (h : Cs G cc a b) : Cp G cc a b
  | more {a b c : Nat} (h : Cp G cc a b) (k : Cs G cc b c) : Cp G cc a c
abbrev AccC (G : List Gn) (cc : Nat → Nat) (c : Nat) : Prop := Acc (fun b a => Cs G cc a b) c
section CyVs
variable {G : List Gn} {cc col ro : Nat → Nat} {kn : Kn} {E : List (Nat × Nat)} {a b c i : Nat}
theorem Cp.trans (h : Cp G cc a b) (k : Cp G cc b c) : Cp G cc a c := by
  induction k with
  | one s => exact .more h s
  | more _ s ih => exact .more ih s
theorem AccC.down (h : AccC G cc a) (k : Cp G cc a b) : AccC G cc b := by
  induction k with
  | one s => exact h.inv s
  | more _ s ih => exact ih.inv s
theorem Cp.front (h : Cp G cc a b) : ∃ d, Cs G cc a d ∧ (d = b ∨ Cp G cc d b) := by
  induction h with
  | one s => exact ⟨_, s, .inl rfl⟩
  | more _ s ih =>
    obtain ⟨d, h1, h2⟩ := ih
    rcases h2 with rfl | h2
    · exact ⟨d, h1, .inr (.one s)⟩
    · exact ⟨d, h1, .inr (.more h2 s)⟩
theorem AccC.no (h : AccC G cc a) : ¬ Cp G cc a a := by
  induction h with
  | intro a _ ih =>
    intro k
    obtain ⟨d, h1, h2⟩ := k.front
    rcases h2 with rfl | h2
    · exact ih d h1 (.one h1)
    · exact ih d h1 (h2.trans (.one h1))
theorem nodup_sub {V L : List Nat} (hn : V.Nodup) (hs : ∀ x ∈ V, x ∈ L) : V.length ≤ L.length := by
  induction V generalizing L with
  | nil => simp
  | cons x V ih =>
    have hx := hs x List.mem_cons_self
    obtain ⟨h1, h2⟩ := List.nodup_cons.1 hn
    have h3 := ih h2 (L := L.erase x) fun y hy => (List.mem_erase_of_ne (fun e => h1 (by rw [← e]; exact hy))).2 (hs y (List.mem_cons_of_mem _ hy))
    have h4 := List.length_erase_of_mem hx
    have h5 := List.length_pos_of_mem hx
    rw [List.length_cons]
    omega
theorem acc_noloop (hp : ∀ p ∈ G, ∀ u ∈ p.2.2.2, u < G.length) : ∀ (m : Nat) (V : List Nat) (c : Nat), V.Nodup → (∀ v ∈ V, v ∈ (List.range G.length).map cc) → (∀ v ∈ V, Cp G cc v c) → c ∈ (List.range G.length).map cc → (∀ d, (d = c ∨ Cp G cc c d) → ¬ Cp G cc d d) → G.length ≤ V.length + m → AccC G cc c := by
  intro m
  induction m with
  | zero =>
    intro V c hn hV hR hc hno hl
    exfalso
    have hcV : c ∉ V := fun h => hno c (.inl rfl) (hR c h)
    have h1 := nodup_sub (V := c :: V) (L := (List.range G.length).map cc) (List.nodup_cons.2 ⟨hcV, hn⟩) fun x hx => by
      rcases List.mem_cons.1 hx with rfl | hx
      · exact hc
      · exact hV x hx
    rw [List.length_cons, List.length_map, List.length_range] at h1
    omega
  | succ m ih =>
    intro V c hn hV hR hc hno hl
    have hcV : c ∉ V := fun h => hno c (.inl rfl) (hR c h)
    refine ⟨_, fun d hd => ?_⟩
    have hd : Cs G cc c d := hd
    refine ih (c :: V) d (List.nodup_cons.2 ⟨hcV, hn⟩) (fun v hv => ?_) (fun v hv => ?_) ?_ (fun e he => ?_) (by rw [List.length_cons]; omega)
    · rcases List.mem_cons.1 hv with rfl | hv
      · exact hc
      · exact hV v hv
    · rcases List.mem_cons.1 hv with rfl | hv
      · exact .one hd
      · exact .more (hR v hv) hd
    · obtain ⟨k, p, u, h1, h2, h3, h4, h5⟩ := hd
      exact List.mem_map.2 ⟨u, List.mem_range.2 (hp p (List.mem_of_getElem? h1) u h4), h5⟩
    · rcases he with rfl | he
      · exact hno _ (.inr (.one hd))
      · exact hno _ (.inr ((Cp.one hd).trans he))
theorem acc_colors (hp : ∀ p ∈ G, ∀ u ∈ p.2.2.2, u < G.length) (hi : i < G.length) : ¬ AccC G cc (cc i) ↔ ∃ d, (d = cc i ∨ Cp G cc (cc i) d) ∧ Cp G cc d d := by
  constructor
  · intro h
    refine Classical.byContradiction fun hno => h ?_
    exact acc_noloop hp G.length [] (cc i) (by simp) (fun v hv => by cases hv) (fun v hv => by cases hv) (List.mem_map.2 ⟨i, List.mem_range.2 hi, rfl⟩) (fun d hd k => hno ⟨d, hd, k⟩) (by simp)
  · rintro ⟨d, hd, k⟩ h
    rcases hd with rfl | hd
    · exact h.no k
    · exact (h.down hd).no k
theorem Cp.at (hp : ∀ p ∈ G, ∀ u ∈ p.2.2.2, u < G.length) (h : Cp G cc a b) : ∃ u, u < G.length ∧ cc u = b := by
  cases h with
  | one s => obtain ⟨k, p, u, h1, h2, h3, h4, h5⟩ := s; exact ⟨u, hp p (List.mem_of_getElem? h1) u h4, h5⟩
  | more _ s => obtain ⟨k, p, u, h1, h2, h3, h4, h5⟩ := s; exact ⟨u, hp p (List.mem_of_getElem? h1) u h4, h5⟩
theorem acc_color (h : Both G col ro kn E cc) (hi : i < G.length) : Acc (Nx G E) i ↔ AccC G cc (cc i) := by
  constructor
  · intro ha
    induction ha with
    | intro i _ ih =>
      refine ⟨_, fun b hb => ?_⟩
      obtain ⟨k, p, u, h1, h2, h3, h4, rfl⟩ := hb
      exact ih u ⟨k, p, (h.cl hi (lt_of_get h1)).2 h2.symm, h1, h3, h4⟩ (h.rc.parts k p h1 u h4)
  · intro ha
    obtain ⟨c, hc⟩ : ∃ c, cc i = c := ⟨_, rfl⟩
    rw [hc] at ha
    induction ha generalizing i with
    | intro c _ ih =>
      subst hc
      refine ⟨_, fun j ⟨z, p, h1, h2, h3, h4⟩ => ?_⟩
      exact ih (cc j) ⟨z, p, j, h2, ((h.cl hi (lt_of_get h2)).1 h1).symm, h3, h4, rfl⟩ (h.rc.parts z p h2 j h4) rfl
def NextIs (G : List Gn) (cc : Nat → Nat) (i : Nat) (P : List Nat) : Prop :=
  (∃ (k : Nat) (p : Gn), G[k]? = some p ∧ cc k = cc i ∧ p.1 ≠ 1 ∧ P = p.2.2.2) ∨ ((∀ (k : Nat) (p : Gn), G[k]? = some p → cc k = cc i → p.1 = 1) ∧ P = [])
theorem NextIs.all (h : Both G col ro kn E cc) (_hi : i < G.length) {P : List Nat} (hP : NextIs G cc i P) (d : Nat) : Cs G cc (cc i) d ↔ ∃ u ∈ P, cc u = d := by
  rcases hP with ⟨k, p, h1, h2, h3, rfl⟩ | ⟨h1, rfl⟩
  · constructor
    · rintro ⟨z, q, u, g1, g2, g3, g4, rfl⟩
      have hkz := (h.cl (lt_of_get h1) (lt_of_get g1)).2 (h2.trans g2.symm)
      have hf : Fit p q := Classical.byContradiction fun hf => h.nc ⟨k, z, p, q, hkz, h1, g1, h3, g3, hf⟩
      obtain ⟨t, ht, rfl⟩ := List.getElem_of_mem g4
      have htp : t < p.2.2.2.length := by have := hf.2; omega
      exact ⟨p.2.2.2[t], List.getElem_mem htp, h.hc k z p q h1 g1 (h2.trans g2.symm) h3 hf.1 hf.2 t _ _ (List.getElem?_eq_getElem htp) (List.getElem?_eq_getElem ht)⟩
    · rintro ⟨u, hu, rfl⟩
      exact ⟨k, p, u, h1, h2, h3, hu, rfl⟩
  · constructor
    · rintro ⟨z, q, u, g1, g2, g3, g4, rfl⟩
      exact absurd (h1 z q g1 g2) g3
    · rintro ⟨u, hu, _⟩
      cases hu
end CyVs
end Go.Proofs.YtojgiienohpaiaaGreat
