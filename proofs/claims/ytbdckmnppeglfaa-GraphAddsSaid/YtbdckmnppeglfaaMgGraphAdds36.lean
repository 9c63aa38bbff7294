/- Texts of one proof, one behind the other. -/
import Derived.Test.YtbdckmnppeglfaaMgGraphAdds34
import Derived.Test.YtbdckmnppeglfaaMgGraphAdds35
import Derived.Test.YtbdckmnppeglfaaMgGraphAdds33
import Derived.Test.YtbdckmnppeglfaaMgGraphAdds24
/- GraphAdds, walked. -/
namespace Go.Proofs.Ytbdckmnppeglfaa
open Go.RowKit Go.Shelf
set_option maxRecDepth 100000
/-- A node of the document's graph, as it lies. -/
theorem RgM.cells4 {D : Nat → Prop} {BT : Nat} {w : World} {A : Option Addr} {c : Nat} {M : List Rm} {R : List Rn} (h : RgM D BT w (.slice A M.length c) M) (hR : M1 M = R) (i : Nat) (y : Rn) (hy : R[i]? = some y) :
    ∃ b off q, A = some ⟨b, off, none⟩ ∧ b < w.heap.size ∧ w.cell? ⟨b, off + i * 4, none⟩ = some (.int .i64 y.1) ∧ w.cell? ⟨b, off + i * 4 + 1, none⟩ = some (.int .i64 y.2.1) ∧ w.cell? ⟨b, off + i * 4 + 3, none⟩ = some (slv q) ∧ Rd w 1 (slv q) y.2.2.2.2.length (nums y.2.2.2.2) := by
  have hi : i < M.length := by have := (List.getElem?_eq_some_iff.1 hy).1; rw [← hR] at this; simpa [M1] using this
  have hMi : M[i].1 = y := by
    rw [← hR, List.getElem?_map, List.getElem?_eq_getElem hi] at hy
    simpa using hy
  obtain ⟨b, off, cap, hv, _, _, hlt, hc⟩ := h.row.1.2.resolve_left (by rintro ⟨h, _⟩; omega)
  injection hv with hA _ _
  obtain ⟨p0, p1, -, p3⟩ := rmC_at M i hi
  rw [hMi] at p0 p1
  exact ⟨b, off, M[i].2, hA, hlt, hc _ _ p0, by rw [Nat.add_assoc]; exact hc _ _ p1, by rw [Nat.add_assoc]; exact hc _ _ p3, by have := (h.nodes M[i] (List.getElem_mem _)).2.1; rwa [hMi] at this⟩
set_option maxHeartbeats 8000000 in
theorem gadds_law (w : World) (F : Fo) (v : Value) (ask : Int) (hF : TyV w.heap.size w F v) (hwf : F.wf) (hask : (Lit.int .i64 ask).wf = true) :
    Calls Try.prog 3 #[v, .int .i64 ask] w fun e w' => e = .returned (.bool true) ∧ Below w.heap.size w w' := by
  have HGT := Lib.hid (great11_any w F v hF)
  have HF := Lib.hid hF
  have HWF := Lib.hid hwf
  have HASK := Lib.hid hask
  obtain ⟨Av, cv, rfl⟩ := hF.slice
  clear hF hwf hask
  go_enter Try.func3, Try.ntmps3
  go_wp2_with fail
  refine HGT.out.mono ?_
  rintro e w2 ⟨gb, rfl, hgb, hb2⟩
  have HB2 := Lib.hid hb2
  have HGB := Lib.hid hgb
  clear hb2 hgb
  cases gb
  rotate_left
  · go_wp2_with fail
    refine (awake11 w2).mono ?_
    rintro e w3 ⟨rfl, hb3⟩
    go_wp2_with fail
    go_ret
    exact ⟨rfl, HB2.out.trans (hb3.mono HB2.out.size)⟩
  have hlen : F.len ≤ 30 ∧ F.size ≤ 400 := by first | exact HGB.out rfl | exact HGB.out trivial
  have hboth := both_any w2 w.heap.size HB2.out.size F (.slice Av F.len cv) (HF.out.below HB2.out) HWF.out (by omega)
  have HBO := Lib.hid hboth
  have hlo := (TyV.list HF.out).lenOk
  have hok := bAll_ok F ([], []) (BOk.nil []) hlo
  have hnd := bAll_ND F ([], []) ND.nil HWF.out
  have hbl := (bAll_len F ([], [])).1
  have hsz := bAll_sizes F ([], [])
  generalize bAll ([], []) F = S at *
  obtain ⟨R, A⟩ := S
  dsimp only [List.length_nil] at hok hbl HBO hnd hsz
  have hsz2 : ∀ x ∈ R, 1 + x.2.2.2.1.size ≤ 400 := fun x hx => by
    rcases hsz x hx with h | h
    · cases h
    · omega
  have HOK := Lib.hid (And.intro hok (And.intro hnd hsz2))
  have hRl : R.length ≤ 400 := by omega
  clear hboth hlo hok hbl HGT hnd hsz hsz2
  go_wp2_with fail
  refine HBO.out.mono ?_
  rintro e w3 ⟨g, mb, vg, vm, va, L, M, rfl, hI, hGI⟩
  have hml : M.length = R.length := by rw [← hI.eqR]; simp [M1]
  have hgm : gM M = R.map rG := by rw [gM_eq, hI.eqR]
  obtain ⟨Am, cm, rfl⟩ := hI.model.row.1.form
  have HI := Lib.hid hI
  have HML := Lib.hid (And.intro hml hgm)
  have HLN := Lib.hid (len_graph w3 w2.heap.size g mb vg L (R.map rG) hI.graph)
  have hl1 : ((R.map rG).length : Int) = (R.length : Int) := by simp
  rw [hl1] at HLN
  have HV := Lib.hid (vars_graph w3 w2.heap.size g mb vg L (R.map rG) hI.graph (by simp; omega) HOK.out.2.1.nd HOK.out.2.1.names)
  obtain ⟨V, hV⟩ : ∃ V, vsort (R.map rG) = V := ⟨_, rfl⟩
  have hVl : V.length ≤ 400 := by have := vsort_len (R.map rG); rw [hV, List.length_map] at this; omega
  rw [hV] at HV
  have HVV := Lib.hid hV
  obtain ⟨lm, hlm⟩ : ∃ lm, M.length = lm := ⟨_, rfl⟩
  rw [hlm]
  have HLM := Lib.hid hlm
  have hlR : (R.length : Int) = (lm : Int) := by omega
  rw [hlR] at HLN
  have hlm4 : lm ≤ 400 := by omega
  clear hI hGI hml hgm hl1 hV hlm hlR
  go_wp2_with fail
  refine HLN.out.mono ?_
  rintro e w4 ⟨rfl, rfl⟩
  go_wp2_with fail
  refine HV.out.mono ?_
  rintro e w5 ⟨v5, rfl, own5, hb5⟩
  have hI5 := HI.out.keep HB2.out.size hb5
  have hrv := rvars11 w5 _ M hI5.model.row.1 (by have := HML.out.1; omega)
  rw [HML.out.2, HVV.out, HLM.out] at hrv
  have HRV := Lib.hid hrv
  have HO5 := Lib.hid own5
  have HB5 := Lib.hid hb5
  obtain ⟨A5, c5, rfl, -, -⟩ := own_form own5
  clear hI5 hrv own5 hb5 HLN HV
  go_wp2_with fail
  refine HRV.out.mono ?_
  rintro e w6 ⟨v6, rfl, hR6, hb6⟩
  obtain ⟨A6, c6, rfl⟩ := hR6.form
  have hin := rints_any V V (.slice A5 V.length c5) (.slice A6 V.length c6) w6 (Rd.of_own (own_below HO5.out hb6)) hR6 (by omega) (by omega)
  rw [show (V == V) = true from beq_self_eq_true V] at hin
  have HIN := Lib.hid hin
  have HB6 := Lib.hid (HB5.out.trans (hb6.mono HB5.out.size))
  clear hin hR6 hb6
  go_wp2_with fail
  refine HIN.out.mono ?_
  rintro e w7 ⟨rfl, hb7⟩
  have HB7 := Lib.hid (HB6.out.trans (hb7.mono HB6.out.size))
  clear hb7
  go_wp2_with fail
  go_loopw [9] (fun t wr => ∃ k : Nat, k ≤ lm ∧ t = .int .i64 k ∧ Below w4.heap.size w4 wr) (fun t _ => lm - (intOf t).toNat)
  case atStart => exact ⟨0, Nat.zero_le _, rfl, HB7.out⟩
  case round =>
    obtain ⟨k, hk, rfl, hb⟩ := hrel
    have HB := Lib.hid hb
    have hz := hb.size
    clear hb
    have hIr := HI.out.keep HB2.out.size HB.out
    by_cases hkl : k < lm
    · have hkR : k < R.length := by have := HML.out.1; have := HLM.out; omega
      obtain ⟨y, hy⟩ : ∃ y, R[k]? = some y := ⟨_, List.getElem?_eq_getElem hkR⟩
      have hiG : k < (R.map rG).length := by simpa using hkR
      have hGx : (R.map rG)[k]'hiG = rG y := by simp [(List.getElem?_eq_some_iff.1 hy).2]
      have hnm := name_in wr w2.heap.size g mb vg L (R.map rG) hIr.graph k hiG
      have hnY : y.1 = 1 → Calls Try.prog 17 #[.pointer (some ⟨g, 0, none⟩), .int .i64 (k : Nat)] wr fun e w' => e = .returned (.tuple #[.int .i64 y.2.1, .bool true]) ∧ Below wr.heap.size wr w' := fun h1 => hnm.mono fun e w' ⟨h2, h3⟩ => ⟨by rw [h2, hGx, if_pos (show (rG y).1 = 1 from h1)]; rfl, h3⟩
      have hnN : ¬ y.1 = 1 → Calls Try.prog 17 #[.pointer (some ⟨g, 0, none⟩), .int .i64 (k : Nat)] wr fun e w' => e = .returned (.tuple #[.int .i64 0, .bool false]) ∧ Below wr.heap.size wr w' := fun h1 => hnm.mono fun e w' ⟨h2, h3⟩ => ⟨by rw [h2, hGx, if_neg (show ¬ (rG y).1 = 1 from h1)], h3⟩
      have HNY := Lib.hid hnY
      have HNN := Lib.hid hnN
      have HIR := Lib.hid hIr
      have HY := Lib.hid (And.intro hy hGx)
      have hy4 := HOK.out.2.2 y (List.mem_of_getElem? hy)
      have hyp := (HOK.out.1.ri k y hy).1
      have hyl := y.2.2.2.1.len_le_size
      have hP4 : y.2.2.2.2.length ≤ 400 := by omega
      clear hy hGx hkR hy4 hyp hyl
      have mid : ∀ w8, Below wr.heap.size wr w8 → ∃ bm om q1 q2 q3, Am = some ⟨bm, om, none⟩ ∧
          (∀ W, LS w8 W → W.cell? ⟨bm, om + k * 4, none⟩ = some (.int .i64 y.1) ∧ W.cell? ⟨bm, om + k * 4 + 1, none⟩ = some (.int .i64 y.2.1) ∧ W.cell? ⟨bm, om + k * 4 + 3, none⟩ = some (.slice q1 q2 q3)) ∧
          (∀ W, LS w8 W → Rd W 1 (.slice q1 q2 q3) y.2.2.2.2.length (nums y.2.2.2.2)) ∧
          (∀ W, LS w8 W → Gives Try.prog 18 #[.pointer (some ⟨g, 0, none⟩), .int .i64 (k : Nat)] W (fun v _ => v = .int .i64 y.1)) ∧
          (∀ W, LS w8 W → Gives Try.prog 19 #[.pointer (some ⟨g, 0, none⟩), .int .i64 (k : Nat)] W (fun v w' => w'.ownsRow W.heap.size 3 1 v y.2.2.2.2.length (nums y.2.2.2.2))) := by
        intro w8 hb8
        have hI8 := HIR.out.keep HB2.out.size hb8
        obtain ⟨bm, om, ⟨q1, q2, q3⟩, hA, hbm, c0, c1, c3, hq⟩ := hI8.model.cells4 HI.out.eqR k y HY.out.1
        refine ⟨bm, om, q1, q2, q3, hA, fun W hW => ⟨(Below.cell hW (p := ⟨bm, om + k * 4, none⟩) hbm).trans c0, (Below.cell hW (p := ⟨bm, om + k * 4 + 1, none⟩) hbm).trans c1, (Below.cell hW (p := ⟨bm, om + k * 4 + 3, none⟩) hbm).trans c3⟩, fun W hW => hq.below hW, fun W hW => ?_, fun W hW => ?_⟩
        · have h := kind_in W w2.heap.size g mb vg L (R.map rG) (hI8.graph.below hW) k hiG
          rw [HY.out.2] at h
          exact gives_of h
        · have h := parts_in W w2.heap.size g mb vg L (R.map rG) (hI8.graph.below hW) k hiG (by rw [HY.out.2]; show y.2.2.2.2.length ≤ _; omega)
          rw [HY.out.2] at h
          exact h
      have MID := Lib.hid mid
      clear mid HY hnm hnY hnN hiG
      obtain ⟨yk, yn, yu, yps, P⟩ := y
      dsimp only at MID hP4 HNY HNN
      by_cases hne : yk = 1
      · subst hne
        have HNM := Lib.hid (HNY.out rfl)
        clear HNY HNN hIr
        go_wp2_with fail
        refine HNM.out.mono ?_
        rintro e w8 ⟨rfl, hb8⟩
        have HB8 := Lib.hid hb8
        obtain ⟨bm, om, q1, q2, q3, rfl, ex, mq, kd, pa⟩ := MID.out w8 hb8
        have EX := Lib.hid ex
        have MQ := Lib.hid mq
        have KIND := Lib.hid kd
        have PARTS := Lib.hid pa
        clear hb8 ex mq kd pa
        go_wp2_with fail
        refine wp_region_held (S := LS w8) (by kernel_rfl) ?_
        change wpAnyH _ _ _ _ _ 46 (List.replicate 46 false).toArray _ w8.drew
        have hLD : LS w8 w8.drew := (Below.refl _ _).drew
        have HLD := Lib.hid hLD
        clear hLD
        simp only [List.replicate_succ, List.replicate_zero]
        refine any_take (i := 0) (some 55) (.pointer (some ⟨g, 0, none⟩)) rfl (by rfl) (by kernel_rfl) (by kernel_rfl) (by kernel_rfl) (fun _ _ _ h => h) (Or.inl ⟨by kernel_rfl, (fun w hw => by clear hw; go_simp)⟩) HLD.out ?_
        simp only [Act.put, List.setIfInBounds_toArray, List.set_cons_zero, List.set_cons_succ]
        refine any_take (i := 1) (some 56) (.int .i64 (k : Nat)) rfl (by rfl) (by kernel_rfl) (by kernel_rfl) (by kernel_rfl) (fun _ _ _ h => h) (Or.inl ⟨by kernel_rfl, (fun w hw => by clear hw; go_simp)⟩) HLD.out ?_
        simp only [Act.put, List.setIfInBounds_toArray, List.set_cons_zero, List.set_cons_succ]
        refine any_take (i := 3) (some 58) (.slice (some ⟨bm, om, none⟩) lm cm) rfl (by rfl) (by kernel_rfl) (by kernel_rfl) (by kernel_rfl) (fun _ _ _ h => h) (Or.inl ⟨by kernel_rfl, (fun w hw => by clear hw; go_simp)⟩) HLD.out ?_
        simp only [Act.put, List.setIfInBounds_toArray, List.set_cons_zero, List.set_cons_succ]
        refine any_take (i := 4) (some 59) (.int .i64 (k : Nat)) rfl (by rfl) (by kernel_rfl) (by kernel_rfl) (by kernel_rfl) (fun _ _ _ h => h) (Or.inl ⟨by kernel_rfl, (fun w hw => by clear hw; go_simp)⟩) HLD.out ?_
        simp only [Act.put, List.setIfInBounds_toArray, List.set_cons_zero, List.set_cons_succ]
        refine any_take (i := 5) (some 60) (.pointer (some ⟨bm, om + k * 4, none⟩)) rfl (by rfl) (by kernel_rfl) (by kernel_rfl) (by kernel_rfl) (fun _ _ _ h => h) (Or.inl ⟨by kernel_rfl, (fun w hw => by clear hw; go_simp <;> (intro h9; omega))⟩) HLD.out ?_
        simp only [Act.put, List.setIfInBounds_toArray, List.set_cons_zero, List.set_cons_succ]
        refine any_take (i := 6) (some 61) (.pointer (some ⟨bm, om + k * 4, none⟩)) rfl (by rfl) (by kernel_rfl) (by kernel_rfl) (by kernel_rfl) (fun _ _ _ h => h) (Or.inl ⟨by kernel_rfl, (fun w hw => by clear hw; go_simp)⟩) HLD.out ?_
        simp only [Act.put, List.setIfInBounds_toArray, List.set_cons_zero, List.set_cons_succ]
        refine any_take (i := 7) (some 62) (.pointer (some ⟨bm, om + k * 4, none⟩)) rfl (by rfl) (by kernel_rfl) (by kernel_rfl) (by kernel_rfl) (fun _ _ _ h => h) (Or.inl ⟨by kernel_rfl, (fun w hw => by clear hw; go_simp)⟩) HLD.out ?_
        simp only [Act.put, List.setIfInBounds_toArray, List.set_cons_zero, List.set_cons_succ]
        refine any_take (i := 8) (some 63) (.int .i64 1) rfl (by rfl) (by kernel_rfl) (by kernel_rfl) (by kernel_rfl) (fun _ _ _ h => h) (Or.inl ⟨by kernel_rfl, (fun w hw => by obtain ⟨m0, m1, m2⟩ := EX.out w hw; clear hw; go_simp)⟩) HLD.out ?_
        simp only [Act.put, List.setIfInBounds_toArray, List.set_cons_zero, List.set_cons_succ]
        refine any_one_d (i := 2) (some 57) rfl (by rfl) (by kernel_rfl) (by kernel_rfl) (by go_simp) HLD.out (KIND.out _ HLD.out) ?_
        rintro v1 W1 hb1 hS1 rfl
        have HS1 := Lib.hid hS1
        clear hb1 hS1
        simp only [Act.put, List.setIfInBounds_toArray, List.set_cons_zero, List.set_cons_succ]
        refine any_take (i := 9) (some 64) (.bool false) rfl (by rfl) (by kernel_rfl) (by kernel_rfl) (by kernel_rfl) (fun _ _ _ h => h) (Or.inl ⟨by kernel_rfl, (fun w hw => by clear hw; go_simp)⟩) HS1.out ?_
        simp only [Act.put, List.setIfInBounds_toArray, List.set_cons_zero, List.set_cons_succ]
        refine any_take (i := 10) (some 65) (.bool false) rfl (by rfl) (by kernel_rfl) (by kernel_rfl) (by kernel_rfl) (fun _ _ _ h => h) (Or.inl ⟨by kernel_rfl, (fun w hw => by clear hw; go_simp)⟩) HS1.out ?_
        simp only [Act.put, List.setIfInBounds_toArray, List.set_cons_zero, List.set_cons_succ]
        refine any_take (i := 11) (some 66) (.pointer (some ⟨g, 0, none⟩)) rfl (by rfl) (by kernel_rfl) (by kernel_rfl) (by kernel_rfl) (fun _ _ _ h => h) (Or.inl ⟨by kernel_rfl, (fun w hw => by clear hw; go_simp)⟩) HS1.out ?_
        simp only [Act.put, List.setIfInBounds_toArray, List.set_cons_zero, List.set_cons_succ]
        refine any_take (i := 12) (some 67) (.int .i64 (k : Nat)) rfl (by rfl) (by kernel_rfl) (by kernel_rfl) (by kernel_rfl) (fun _ _ _ h => h) (Or.inl ⟨by kernel_rfl, (fun w hw => by clear hw; go_simp)⟩) HS1.out ?_
        simp only [Act.put, List.setIfInBounds_toArray, List.set_cons_zero, List.set_cons_succ]
        refine any_take (i := 14) (some 69) (.slice (some ⟨bm, om, none⟩) lm cm) rfl (by rfl) (by kernel_rfl) (by kernel_rfl) (by kernel_rfl) (fun _ _ _ h => h) (Or.inl ⟨by kernel_rfl, (fun w hw => by clear hw; go_simp)⟩) HS1.out ?_
        simp only [Act.put, List.setIfInBounds_toArray, List.set_cons_zero, List.set_cons_succ]
        refine any_take (i := 15) (some 70) (.int .i64 (k : Nat)) rfl (by rfl) (by kernel_rfl) (by kernel_rfl) (by kernel_rfl) (fun _ _ _ h => h) (Or.inl ⟨by kernel_rfl, (fun w hw => by clear hw; go_simp)⟩) HS1.out ?_
        simp only [Act.put, List.setIfInBounds_toArray, List.set_cons_zero, List.set_cons_succ]
        refine any_take (i := 16) (some 71) (.pointer (some ⟨bm, om + k * 4, none⟩)) rfl (by rfl) (by kernel_rfl) (by kernel_rfl) (by kernel_rfl) (fun _ _ _ h => h) (Or.inl ⟨by kernel_rfl, (fun w hw => by clear hw; go_simp <;> (intro h9; omega))⟩) HS1.out ?_
        simp only [Act.put, List.setIfInBounds_toArray, List.set_cons_zero, List.set_cons_succ]
        refine any_take (i := 17) (some 72) (.pointer (some ⟨bm, om + k * 4 + 3, none⟩)) rfl (by rfl) (by kernel_rfl) (by kernel_rfl) (by kernel_rfl) (fun _ _ _ h => h) (Or.inl ⟨by kernel_rfl, (fun w hw => by clear hw; go_simp)⟩) HS1.out ?_
        simp only [Act.put, List.setIfInBounds_toArray, List.set_cons_zero, List.set_cons_succ]
        refine any_take (i := 18) (some 73) (.slice q1 q2 q3) rfl (by rfl) (by kernel_rfl) (by kernel_rfl) (by kernel_rfl) (fun _ _ _ h => h) (Or.inl ⟨by kernel_rfl, (fun w hw => by obtain ⟨m0, m1, m2⟩ := EX.out w hw; clear hw; go_simp)⟩) HS1.out ?_
        simp only [Act.put, List.setIfInBounds_toArray, List.set_cons_zero, List.set_cons_succ]
        refine any_one_d (i := 13) (some 68) rfl (by rfl) (by kernel_rfl) (by kernel_rfl) (by go_simp) HS1.out (PARTS.out _ HS1.out) ?_
        rintro v2 W2 hb2 hS2 own2
        obtain ⟨A2, c2, rfl, -, -⟩ := own_form own2
        have HS2 := Lib.hid hS2
        have INTS := Lib.hid (gives_of (rints_any (toI P) (toI P) (.slice A2 P.length c2) (.slice q1 q2 q3) W2 (by rw [toI_len]; exact Rd.of_own own2) (by rw [toI_len]; exact MQ.out W2 hS2) (by rw [toI_len]; omega) (by rw [toI_len]; omega)))
        clear hb2 hS2 own2
        simp only [Act.put, List.setIfInBounds_toArray, List.set_cons_zero, List.set_cons_succ]
        refine any_one_d (i := 19) (some 74) rfl (by rfl) (by kernel_rfl) (by kernel_rfl) (by go_simp) HS2.out INTS.out ?_
        rintro v3 W3 hb3 hS3 rfl
        rw [beq_self_eq_true]
        have HS3 := Lib.hid hS3
        clear hb3 hS3
        simp only [Act.put, List.setIfInBounds_toArray, List.set_cons_zero, List.set_cons_succ]
        refine any_take (i := 20) (some 75) (.bool false) rfl (by rfl) (by kernel_rfl) (by kernel_rfl) (by kernel_rfl) (fun _ _ _ h => h) (Or.inl ⟨by kernel_rfl, (fun w hw => by clear hw; go_simp)⟩) HS3.out ?_
        simp only [Act.put, List.setIfInBounds_toArray, List.set_cons_zero, List.set_cons_succ]
        refine any_take (i := 21) (some 76) (.bool false) rfl (by rfl) (by kernel_rfl) (by kernel_rfl) (by kernel_rfl) (fun _ _ _ h => h) (Or.inl ⟨by kernel_rfl, (fun w hw => by clear hw; go_simp)⟩) HS3.out ?_
        simp only [Act.put, List.setIfInBounds_toArray, List.set_cons_zero, List.set_cons_succ]
        refine any_take (i := 22) (some 77) (.bool false) rfl (by rfl) (by kernel_rfl) (by kernel_rfl) (by kernel_rfl) (fun _ _ _ h => h) (Or.inl ⟨by kernel_rfl, (fun w hw => by clear hw; go_simp)⟩) HS3.out ?_
        simp only [Act.put, List.setIfInBounds_toArray, List.set_cons_zero, List.set_cons_succ]
        refine any_take (i := 23) (some 78) (.bool true) rfl (by rfl) (by kernel_rfl) (by kernel_rfl) (by kernel_rfl) (fun _ _ _ h => h) (Or.inl ⟨by kernel_rfl, (fun w hw => by clear hw; go_simp)⟩) HS3.out ?_
        simp only [Act.put, List.setIfInBounds_toArray, List.set_cons_zero, List.set_cons_succ]
        refine any_take (i := 24) (some 79) (.slice (some ⟨bm, om, none⟩) lm cm) rfl (by rfl) (by kernel_rfl) (by kernel_rfl) (by kernel_rfl) (fun _ _ _ h => h) (Or.inl ⟨by kernel_rfl, (fun w hw => by clear hw; go_simp)⟩) HS3.out ?_
        simp only [Act.put, List.setIfInBounds_toArray, List.set_cons_zero, List.set_cons_succ]
        refine any_take (i := 25) (some 80) (.int .i64 (k : Nat)) rfl (by rfl) (by kernel_rfl) (by kernel_rfl) (by kernel_rfl) (fun _ _ _ h => h) (Or.inl ⟨by kernel_rfl, (fun w hw => by clear hw; go_simp)⟩) HS3.out ?_
        simp only [Act.put, List.setIfInBounds_toArray, List.set_cons_zero, List.set_cons_succ]
        refine any_take (i := 26) (some 81) (.pointer (some ⟨bm, om + k * 4, none⟩)) rfl (by rfl) (by kernel_rfl) (by kernel_rfl) (by kernel_rfl) (fun _ _ _ h => h) (Or.inl ⟨by kernel_rfl, (fun w hw => by clear hw; go_simp <;> (intro h9; omega))⟩) HS3.out ?_
        simp only [Act.put, List.setIfInBounds_toArray, List.set_cons_zero, List.set_cons_succ]
        refine any_take (i := 27) (some 82) (.pointer (some ⟨bm, om + k * 4, none⟩)) rfl (by rfl) (by kernel_rfl) (by kernel_rfl) (by kernel_rfl) (fun _ _ _ h => h) (Or.inl ⟨by kernel_rfl, (fun w hw => by clear hw; go_simp)⟩) HS3.out ?_
        simp only [Act.put, List.setIfInBounds_toArray, List.set_cons_zero, List.set_cons_succ]
        refine any_take (i := 28) (some 83) (.pointer (some ⟨bm, om + k * 4, none⟩)) rfl (by rfl) (by kernel_rfl) (by kernel_rfl) (by kernel_rfl) (fun _ _ _ h => h) (Or.inl ⟨by kernel_rfl, (fun w hw => by clear hw; go_simp)⟩) HS3.out ?_
        simp only [Act.put, List.setIfInBounds_toArray, List.set_cons_zero, List.set_cons_succ]
        refine any_take (i := 29) (some 84) (.int .i64 1) rfl (by rfl) (by kernel_rfl) (by kernel_rfl) (by kernel_rfl) (fun _ _ _ h => h) (Or.inl ⟨by kernel_rfl, (fun w hw => by obtain ⟨m0, m1, m2⟩ := EX.out w hw; clear hw; go_simp)⟩) HS3.out ?_
        simp only [Act.put, List.setIfInBounds_toArray, List.set_cons_zero, List.set_cons_succ]
        refine any_take (i := 30) (some 85) (.bool true) rfl (by rfl) (by kernel_rfl) (by kernel_rfl) (by kernel_rfl) (fun _ _ _ h => h) (Or.inl ⟨by kernel_rfl, (fun w hw => by clear hw; go_simp)⟩) HS3.out ?_
        simp only [Act.put, List.setIfInBounds_toArray, List.set_cons_zero, List.set_cons_succ]
        refine any_take (i := 31) (some 86) (.bool false) rfl (by rfl) (by kernel_rfl) (by kernel_rfl) (by kernel_rfl) (fun _ _ _ h => h) (Or.inl ⟨by kernel_rfl, (fun w hw => by clear hw; go_simp)⟩) HS3.out ?_
        simp only [Act.put, List.setIfInBounds_toArray, List.set_cons_zero, List.set_cons_succ]
        refine any_take (i := 32) (some 87) (.bool false) rfl (by rfl) (by kernel_rfl) (by kernel_rfl) (by kernel_rfl) (fun _ _ _ h => h) (Or.inl ⟨by kernel_rfl, (fun w hw => by clear hw; go_simp)⟩) HS3.out ?_
        simp only [Act.put, List.setIfInBounds_toArray, List.set_cons_zero, List.set_cons_succ]
        refine any_take (i := 33) (some 88) (.bool false) rfl (by rfl) (by kernel_rfl) (by kernel_rfl) (by kernel_rfl) (fun _ _ _ h => h) (Or.inl ⟨by kernel_rfl, (fun w hw => by clear hw; go_simp)⟩) HS3.out ?_
        simp only [Act.put, List.setIfInBounds_toArray, List.set_cons_zero, List.set_cons_succ]
        refine any_take (i := 34) (some 89) (.bool true) rfl (by rfl) (by kernel_rfl) (by kernel_rfl) (by kernel_rfl) (fun _ _ _ h => h) (Or.inl ⟨by kernel_rfl, (fun w hw => by clear hw; go_simp)⟩) HS3.out ?_
        simp only [Act.put, List.setIfInBounds_toArray, List.set_cons_zero, List.set_cons_succ]
        refine any_take (i := 35) (some 90) (.bool true) rfl (by rfl) (by kernel_rfl) (by kernel_rfl) (by kernel_rfl) (fun _ _ _ h => h) (Or.inl ⟨by kernel_rfl, (fun w hw => by clear hw; go_simp)⟩) HS3.out ?_
        simp only [Act.put, List.setIfInBounds_toArray, List.set_cons_zero, List.set_cons_succ]
        refine any_take (i := 36) (some 91) (.int .i64 yn) rfl (by rfl) (by kernel_rfl) (by kernel_rfl) (by kernel_rfl) (fun _ _ _ h => h) (Or.inl ⟨by kernel_rfl, (fun w hw => by clear hw; go_simp)⟩) HS3.out ?_
        simp only [Act.put, List.setIfInBounds_toArray, List.set_cons_zero, List.set_cons_succ]
        refine any_take (i := 37) (some 92) (.slice (some ⟨bm, om, none⟩) lm cm) rfl (by rfl) (by kernel_rfl) (by kernel_rfl) (by kernel_rfl) (fun _ _ _ h => h) (Or.inl ⟨by kernel_rfl, (fun w hw => by clear hw; go_simp)⟩) HS3.out ?_
        simp only [Act.put, List.setIfInBounds_toArray, List.set_cons_zero, List.set_cons_succ]
        refine any_take (i := 38) (some 93) (.int .i64 (k : Nat)) rfl (by rfl) (by kernel_rfl) (by kernel_rfl) (by kernel_rfl) (fun _ _ _ h => h) (Or.inl ⟨by kernel_rfl, (fun w hw => by clear hw; go_simp)⟩) HS3.out ?_
        simp only [Act.put, List.setIfInBounds_toArray, List.set_cons_zero, List.set_cons_succ]
        refine any_take (i := 39) (some 94) (.pointer (some ⟨bm, om + k * 4, none⟩)) rfl (by rfl) (by kernel_rfl) (by kernel_rfl) (by kernel_rfl) (fun _ _ _ h => h) (Or.inl ⟨by kernel_rfl, (fun w hw => by clear hw; go_simp <;> (intro h9; omega))⟩) HS3.out ?_
        simp only [Act.put, List.setIfInBounds_toArray, List.set_cons_zero, List.set_cons_succ]
        refine any_take (i := 40) (some 95) (.pointer (some ⟨bm, om + k * 4, none⟩)) rfl (by rfl) (by kernel_rfl) (by kernel_rfl) (by kernel_rfl) (fun _ _ _ h => h) (Or.inl ⟨by kernel_rfl, (fun w hw => by clear hw; go_simp)⟩) HS3.out ?_
        simp only [Act.put, List.setIfInBounds_toArray, List.set_cons_zero, List.set_cons_succ]
        refine any_take (i := 41) (some 96) (.pointer (some ⟨bm, om + k * 4 + 1, none⟩)) rfl (by rfl) (by kernel_rfl) (by kernel_rfl) (by kernel_rfl) (fun _ _ _ h => h) (Or.inl ⟨by kernel_rfl, (fun w hw => by clear hw; go_simp)⟩) HS3.out ?_
        simp only [Act.put, List.setIfInBounds_toArray, List.set_cons_zero, List.set_cons_succ]
        refine any_take (i := 42) (some 97) (.int .i64 yn) rfl (by rfl) (by kernel_rfl) (by kernel_rfl) (by kernel_rfl) (fun _ _ _ h => h) (Or.inl ⟨by kernel_rfl, (fun w hw => by obtain ⟨m0, m1, m2⟩ := EX.out w hw; clear hw; go_simp)⟩) HS3.out ?_
        simp only [Act.put, List.setIfInBounds_toArray, List.set_cons_zero, List.set_cons_succ]
        refine any_take (i := 43) (some 98) (.bool false) rfl (by rfl) (by kernel_rfl) (by kernel_rfl) (by kernel_rfl) (fun _ _ _ h => h) (Or.inl ⟨by kernel_rfl, (fun w hw => by clear hw; go_simp)⟩) HS3.out ?_
        simp only [Act.put, List.setIfInBounds_toArray, List.set_cons_zero, List.set_cons_succ]
        refine any_take (i := 44) (some 99) (.bool false) rfl (by rfl) (by kernel_rfl) (by kernel_rfl) (by kernel_rfl) (fun _ _ _ h => h) (Or.inl ⟨by kernel_rfl, (fun w hw => by clear hw; go_simp)⟩) HS3.out ?_
        simp only [Act.put, List.setIfInBounds_toArray, List.set_cons_zero, List.set_cons_succ]
        refine any_take (i := 45) (some 100) (.bool false) rfl (by rfl) (by kernel_rfl) (by kernel_rfl) (by kernel_rfl) (fun _ _ _ h => h) (Or.inl ⟨by kernel_rfl, (fun w hw => by clear hw; go_simp)⟩) HS3.out ?_
        simp only [Act.put, List.setIfInBounds_toArray, List.set_cons_zero, List.set_cons_succ]
        refine wpAnyH_done (by kernel_rfl) ?_ _
        go_wp2_with fail
        go_roundw
        case rel => exact ⟨k + 1, by omega, by go_num, HB.out.trans ((HB8.out.trans (Below.mono HS3.out HB8.out.size)).mono hz)⟩
        case measure => simp [intOf]; omega
      · have HNM := Lib.hid (HNN.out hne)
        clear HNY HNN hIr
        have f1 : (yk == 1) = false := by simpa using hne
        go_wp2_with fail
        refine HNM.out.mono ?_
        rintro e w8 ⟨rfl, hb8⟩
        have HB8 := Lib.hid hb8
        obtain ⟨bm, om, q1, q2, q3, rfl, ex, mq, kd, pa⟩ := MID.out w8 hb8
        have EX := Lib.hid ex
        have MQ := Lib.hid mq
        have KIND := Lib.hid kd
        have PARTS := Lib.hid pa
        clear hb8 ex mq kd pa
        go_wp2_with fail
        refine wp_region_held (S := LS w8) (by kernel_rfl) ?_
        change wpAnyH _ _ _ _ _ 46 (List.replicate 46 false).toArray _ w8.drew
        have hLD : LS w8 w8.drew := (Below.refl _ _).drew
        have HLD := Lib.hid hLD
        clear hLD
        simp only [List.replicate_succ, List.replicate_zero]
        refine any_take (i := 0) (some 55) (.pointer (some ⟨g, 0, none⟩)) rfl (by rfl) (by kernel_rfl) (by kernel_rfl) (by kernel_rfl) (fun _ _ _ h => h) (Or.inl ⟨by kernel_rfl, (fun w hw => by clear hw; go_simp)⟩) HLD.out ?_
        simp only [Act.put, List.setIfInBounds_toArray, List.set_cons_zero, List.set_cons_succ]
        refine any_take (i := 1) (some 56) (.int .i64 (k : Nat)) rfl (by rfl) (by kernel_rfl) (by kernel_rfl) (by kernel_rfl) (fun _ _ _ h => h) (Or.inl ⟨by kernel_rfl, (fun w hw => by clear hw; go_simp)⟩) HLD.out ?_
        simp only [Act.put, List.setIfInBounds_toArray, List.set_cons_zero, List.set_cons_succ]
        refine any_take (i := 3) (some 58) (.slice (some ⟨bm, om, none⟩) lm cm) rfl (by rfl) (by kernel_rfl) (by kernel_rfl) (by kernel_rfl) (fun _ _ _ h => h) (Or.inl ⟨by kernel_rfl, (fun w hw => by clear hw; go_simp)⟩) HLD.out ?_
        simp only [Act.put, List.setIfInBounds_toArray, List.set_cons_zero, List.set_cons_succ]
        refine any_take (i := 4) (some 59) (.int .i64 (k : Nat)) rfl (by rfl) (by kernel_rfl) (by kernel_rfl) (by kernel_rfl) (fun _ _ _ h => h) (Or.inl ⟨by kernel_rfl, (fun w hw => by clear hw; go_simp)⟩) HLD.out ?_
        simp only [Act.put, List.setIfInBounds_toArray, List.set_cons_zero, List.set_cons_succ]
        refine any_take (i := 5) (some 60) (.pointer (some ⟨bm, om + k * 4, none⟩)) rfl (by rfl) (by kernel_rfl) (by kernel_rfl) (by kernel_rfl) (fun _ _ _ h => h) (Or.inl ⟨by kernel_rfl, (fun w hw => by clear hw; go_simp <;> (intro h9; omega))⟩) HLD.out ?_
        simp only [Act.put, List.setIfInBounds_toArray, List.set_cons_zero, List.set_cons_succ]
        refine any_take (i := 6) (some 61) (.pointer (some ⟨bm, om + k * 4, none⟩)) rfl (by rfl) (by kernel_rfl) (by kernel_rfl) (by kernel_rfl) (fun _ _ _ h => h) (Or.inl ⟨by kernel_rfl, (fun w hw => by clear hw; go_simp)⟩) HLD.out ?_
        simp only [Act.put, List.setIfInBounds_toArray, List.set_cons_zero, List.set_cons_succ]
        refine any_take (i := 7) (some 62) (.pointer (some ⟨bm, om + k * 4, none⟩)) rfl (by rfl) (by kernel_rfl) (by kernel_rfl) (by kernel_rfl) (fun _ _ _ h => h) (Or.inl ⟨by kernel_rfl, (fun w hw => by clear hw; go_simp)⟩) HLD.out ?_
        simp only [Act.put, List.setIfInBounds_toArray, List.set_cons_zero, List.set_cons_succ]
        refine any_take (i := 8) (some 63) (.int .i64 yk) rfl (by rfl) (by kernel_rfl) (by kernel_rfl) (by kernel_rfl) (fun _ _ _ h => h) (Or.inl ⟨by kernel_rfl, (fun w hw => by obtain ⟨m0, m1, m2⟩ := EX.out w hw; clear hw; go_simp)⟩) HLD.out ?_
        simp only [Act.put, List.setIfInBounds_toArray, List.set_cons_zero, List.set_cons_succ]
        refine any_one_d (i := 2) (some 57) rfl (by rfl) (by kernel_rfl) (by kernel_rfl) (by go_simp) HLD.out (KIND.out _ HLD.out) ?_
        rintro v1 W1 hb1 hS1 rfl
        have HS1 := Lib.hid hS1
        clear hb1 hS1
        simp only [Act.put, List.setIfInBounds_toArray, List.set_cons_zero, List.set_cons_succ]
        refine any_take (i := 9) (some 64) (.bool false) rfl (by rfl) (by kernel_rfl) (by kernel_rfl) (by kernel_rfl) (fun _ _ _ h => h) (Or.inl ⟨by kernel_rfl, (fun w hw => by clear hw; go_simp)⟩) HS1.out ?_
        simp only [Act.put, List.setIfInBounds_toArray, List.set_cons_zero, List.set_cons_succ]
        refine any_take (i := 10) (some 65) (.bool false) rfl (by rfl) (by kernel_rfl) (by kernel_rfl) (by kernel_rfl) (fun _ _ _ h => h) (Or.inl ⟨by kernel_rfl, (fun w hw => by clear hw; go_simp)⟩) HS1.out ?_
        simp only [Act.put, List.setIfInBounds_toArray, List.set_cons_zero, List.set_cons_succ]
        refine any_take (i := 11) (some 66) (.pointer (some ⟨g, 0, none⟩)) rfl (by rfl) (by kernel_rfl) (by kernel_rfl) (by kernel_rfl) (fun _ _ _ h => h) (Or.inl ⟨by kernel_rfl, (fun w hw => by clear hw; go_simp)⟩) HS1.out ?_
        simp only [Act.put, List.setIfInBounds_toArray, List.set_cons_zero, List.set_cons_succ]
        refine any_take (i := 12) (some 67) (.int .i64 (k : Nat)) rfl (by rfl) (by kernel_rfl) (by kernel_rfl) (by kernel_rfl) (fun _ _ _ h => h) (Or.inl ⟨by kernel_rfl, (fun w hw => by clear hw; go_simp)⟩) HS1.out ?_
        simp only [Act.put, List.setIfInBounds_toArray, List.set_cons_zero, List.set_cons_succ]
        refine any_take (i := 14) (some 69) (.slice (some ⟨bm, om, none⟩) lm cm) rfl (by rfl) (by kernel_rfl) (by kernel_rfl) (by kernel_rfl) (fun _ _ _ h => h) (Or.inl ⟨by kernel_rfl, (fun w hw => by clear hw; go_simp)⟩) HS1.out ?_
        simp only [Act.put, List.setIfInBounds_toArray, List.set_cons_zero, List.set_cons_succ]
        refine any_take (i := 15) (some 70) (.int .i64 (k : Nat)) rfl (by rfl) (by kernel_rfl) (by kernel_rfl) (by kernel_rfl) (fun _ _ _ h => h) (Or.inl ⟨by kernel_rfl, (fun w hw => by clear hw; go_simp)⟩) HS1.out ?_
        simp only [Act.put, List.setIfInBounds_toArray, List.set_cons_zero, List.set_cons_succ]
        refine any_take (i := 16) (some 71) (.pointer (some ⟨bm, om + k * 4, none⟩)) rfl (by rfl) (by kernel_rfl) (by kernel_rfl) (by kernel_rfl) (fun _ _ _ h => h) (Or.inl ⟨by kernel_rfl, (fun w hw => by clear hw; go_simp <;> (intro h9; omega))⟩) HS1.out ?_
        simp only [Act.put, List.setIfInBounds_toArray, List.set_cons_zero, List.set_cons_succ]
        refine any_take (i := 17) (some 72) (.pointer (some ⟨bm, om + k * 4 + 3, none⟩)) rfl (by rfl) (by kernel_rfl) (by kernel_rfl) (by kernel_rfl) (fun _ _ _ h => h) (Or.inl ⟨by kernel_rfl, (fun w hw => by clear hw; go_simp)⟩) HS1.out ?_
        simp only [Act.put, List.setIfInBounds_toArray, List.set_cons_zero, List.set_cons_succ]
        refine any_take (i := 18) (some 73) (.slice q1 q2 q3) rfl (by rfl) (by kernel_rfl) (by kernel_rfl) (by kernel_rfl) (fun _ _ _ h => h) (Or.inl ⟨by kernel_rfl, (fun w hw => by obtain ⟨m0, m1, m2⟩ := EX.out w hw; clear hw; go_simp)⟩) HS1.out ?_
        simp only [Act.put, List.setIfInBounds_toArray, List.set_cons_zero, List.set_cons_succ]
        refine any_one_d (i := 13) (some 68) rfl (by rfl) (by kernel_rfl) (by kernel_rfl) (by go_simp) HS1.out (PARTS.out _ HS1.out) ?_
        rintro v2 W2 hb2 hS2 own2
        obtain ⟨A2, c2, rfl, -, -⟩ := own_form own2
        have HS2 := Lib.hid hS2
        have INTS := Lib.hid (gives_of (rints_any (toI P) (toI P) (.slice A2 P.length c2) (.slice q1 q2 q3) W2 (by rw [toI_len]; exact Rd.of_own own2) (by rw [toI_len]; exact MQ.out W2 hS2) (by rw [toI_len]; omega) (by rw [toI_len]; omega)))
        clear hb2 hS2 own2
        simp only [Act.put, List.setIfInBounds_toArray, List.set_cons_zero, List.set_cons_succ]
        refine any_one_d (i := 19) (some 74) rfl (by rfl) (by kernel_rfl) (by kernel_rfl) (by go_simp) HS2.out INTS.out ?_
        rintro v3 W3 hb3 hS3 rfl
        rw [beq_self_eq_true]
        have HS3 := Lib.hid hS3
        clear hb3 hS3
        simp only [Act.put, List.setIfInBounds_toArray, List.set_cons_zero, List.set_cons_succ]
        refine any_take (i := 20) (some 75) (.bool false) rfl (by rfl) (by kernel_rfl) (by kernel_rfl) (by kernel_rfl) (fun _ _ _ h => h) (Or.inl ⟨by kernel_rfl, (fun w hw => by clear hw; go_simp)⟩) HS3.out ?_
        simp only [Act.put, List.setIfInBounds_toArray, List.set_cons_zero, List.set_cons_succ]
        refine any_take (i := 21) (some 76) (.bool false) rfl (by rfl) (by kernel_rfl) (by kernel_rfl) (by kernel_rfl) (fun _ _ _ h => h) (Or.inl ⟨by kernel_rfl, (fun w hw => by clear hw; go_simp)⟩) HS3.out ?_
        simp only [Act.put, List.setIfInBounds_toArray, List.set_cons_zero, List.set_cons_succ]
        refine any_take (i := 22) (some 77) (.bool false) rfl (by rfl) (by kernel_rfl) (by kernel_rfl) (by kernel_rfl) (fun _ _ _ h => h) (Or.inl ⟨by kernel_rfl, (fun w hw => by clear hw; go_simp)⟩) HS3.out ?_
        simp only [Act.put, List.setIfInBounds_toArray, List.set_cons_zero, List.set_cons_succ]
        refine any_take (i := 23) (some 78) (.bool false) rfl (by rfl) (by kernel_rfl) (by kernel_rfl) (by kernel_rfl) (fun _ _ _ h => h) (Or.inl ⟨by kernel_rfl, (fun w hw => by clear hw; go_simp)⟩) HS3.out ?_
        simp only [Act.put, List.setIfInBounds_toArray, List.set_cons_zero, List.set_cons_succ]
        refine any_take (i := 24) (some 79) (.slice (some ⟨bm, om, none⟩) lm cm) rfl (by rfl) (by kernel_rfl) (by kernel_rfl) (by kernel_rfl) (fun _ _ _ h => h) (Or.inl ⟨by kernel_rfl, (fun w hw => by clear hw; go_simp)⟩) HS3.out ?_
        simp only [Act.put, List.setIfInBounds_toArray, List.set_cons_zero, List.set_cons_succ]
        refine any_take (i := 25) (some 80) (.int .i64 (k : Nat)) rfl (by rfl) (by kernel_rfl) (by kernel_rfl) (by kernel_rfl) (fun _ _ _ h => h) (Or.inl ⟨by kernel_rfl, (fun w hw => by clear hw; go_simp)⟩) HS3.out ?_
        simp only [Act.put, List.setIfInBounds_toArray, List.set_cons_zero, List.set_cons_succ]
        refine any_take (i := 26) (some 81) (.pointer (some ⟨bm, om + k * 4, none⟩)) rfl (by rfl) (by kernel_rfl) (by kernel_rfl) (by kernel_rfl) (fun _ _ _ h => h) (Or.inl ⟨by kernel_rfl, (fun w hw => by clear hw; go_simp <;> (intro h9; omega))⟩) HS3.out ?_
        simp only [Act.put, List.setIfInBounds_toArray, List.set_cons_zero, List.set_cons_succ]
        refine any_take (i := 27) (some 82) (.pointer (some ⟨bm, om + k * 4, none⟩)) rfl (by rfl) (by kernel_rfl) (by kernel_rfl) (by kernel_rfl) (fun _ _ _ h => h) (Or.inl ⟨by kernel_rfl, (fun w hw => by clear hw; go_simp)⟩) HS3.out ?_
        simp only [Act.put, List.setIfInBounds_toArray, List.set_cons_zero, List.set_cons_succ]
        refine any_take (i := 28) (some 83) (.pointer (some ⟨bm, om + k * 4, none⟩)) rfl (by rfl) (by kernel_rfl) (by kernel_rfl) (by kernel_rfl) (fun _ _ _ h => h) (Or.inl ⟨by kernel_rfl, (fun w hw => by clear hw; go_simp)⟩) HS3.out ?_
        simp only [Act.put, List.setIfInBounds_toArray, List.set_cons_zero, List.set_cons_succ]
        refine any_take (i := 29) (some 84) (.int .i64 yk) rfl (by rfl) (by kernel_rfl) (by kernel_rfl) (by kernel_rfl) (fun _ _ _ h => h) (Or.inl ⟨by kernel_rfl, (fun w hw => by obtain ⟨m0, m1, m2⟩ := EX.out w hw; clear hw; go_simp)⟩) HS3.out ?_
        simp only [Act.put, List.setIfInBounds_toArray, List.set_cons_zero, List.set_cons_succ]
        refine any_take (i := 30) (some 85) (.bool false) rfl (by rfl) (by kernel_rfl) (by kernel_rfl) (by kernel_rfl) (fun _ _ _ h => h) (Or.inl ⟨by kernel_rfl, (fun w hw => by clear hw; go_simp)⟩) HS3.out ?_
        simp only [Act.put, List.setIfInBounds_toArray, List.set_cons_zero, List.set_cons_succ]
        refine any_take (i := 31) (some 86) (.bool false) rfl (by rfl) (by kernel_rfl) (by kernel_rfl) (by kernel_rfl) (fun _ _ _ h => h) (Or.inl ⟨by kernel_rfl, (fun w hw => by clear hw; go_simp)⟩) HS3.out ?_
        simp only [Act.put, List.setIfInBounds_toArray, List.set_cons_zero, List.set_cons_succ]
        refine any_take (i := 32) (some 87) (.bool false) rfl (by rfl) (by kernel_rfl) (by kernel_rfl) (by kernel_rfl) (fun _ _ _ h => h) (Or.inl ⟨by kernel_rfl, (fun w hw => by clear hw; go_simp)⟩) HS3.out ?_
        simp only [Act.put, List.setIfInBounds_toArray, List.set_cons_zero, List.set_cons_succ]
        refine any_take (i := 33) (some 88) (.bool false) rfl (by rfl) (by kernel_rfl) (by kernel_rfl) (by kernel_rfl) (fun _ _ _ h => h) (Or.inl ⟨by kernel_rfl, (fun w hw => by clear hw; go_simp)⟩) HS3.out ?_
        simp only [Act.put, List.setIfInBounds_toArray, List.set_cons_zero, List.set_cons_succ]
        refine any_take (i := 34) (some 89) (.bool false) rfl (by rfl) (by kernel_rfl) (by kernel_rfl) (by kernel_rfl) (fun _ _ _ h => h) (Or.inl ⟨by kernel_rfl, (fun w hw => by clear hw; go_simp)⟩) HS3.out ?_
        simp only [Act.put, List.setIfInBounds_toArray, List.set_cons_zero, List.set_cons_succ]
        refine any_take (i := 35) (some 90) (.bool false) rfl (by rfl) (by kernel_rfl) (by kernel_rfl) (by kernel_rfl) (fun _ _ _ h => h) (Or.inl ⟨by kernel_rfl, (fun w hw => by clear hw; go_simp)⟩) HS3.out ?_
        simp only [Act.put, List.setIfInBounds_toArray, List.set_cons_zero, List.set_cons_succ]
        refine any_take (i := 36) (some 91) (undef) rfl (by rfl) (by kernel_rfl) (by kernel_rfl) (by kernel_rfl) (fun _ _ _ h => h) (Or.inr ⟨by kernel_rfl, rfl⟩) HS3.out ?_
        simp only [Act.put, List.setIfInBounds_toArray, List.set_cons_zero, List.set_cons_succ]
        refine any_take (i := 37) (some 92) (undef) rfl (by rfl) (by kernel_rfl) (by kernel_rfl) (by kernel_rfl) (fun _ _ _ h => h) (Or.inr ⟨by kernel_rfl, rfl⟩) HS3.out ?_
        simp only [Act.put, List.setIfInBounds_toArray, List.set_cons_zero, List.set_cons_succ]
        refine any_take (i := 38) (some 93) (undef) rfl (by rfl) (by kernel_rfl) (by kernel_rfl) (by kernel_rfl) (fun _ _ _ h => h) (Or.inr ⟨by kernel_rfl, rfl⟩) HS3.out ?_
        simp only [Act.put, List.setIfInBounds_toArray, List.set_cons_zero, List.set_cons_succ]
        refine any_take (i := 39) (some 94) (undef) rfl (by rfl) (by kernel_rfl) (by kernel_rfl) (by kernel_rfl) (fun _ _ _ h => h) (Or.inr ⟨by kernel_rfl, rfl⟩) HS3.out ?_
        simp only [Act.put, List.setIfInBounds_toArray, List.set_cons_zero, List.set_cons_succ]
        refine any_take (i := 40) (some 95) (undef) rfl (by rfl) (by kernel_rfl) (by kernel_rfl) (by kernel_rfl) (fun _ _ _ h => h) (Or.inr ⟨by kernel_rfl, rfl⟩) HS3.out ?_
        simp only [Act.put, List.setIfInBounds_toArray, List.set_cons_zero, List.set_cons_succ]
        refine any_take (i := 41) (some 96) (undef) rfl (by rfl) (by kernel_rfl) (by kernel_rfl) (by kernel_rfl) (fun _ _ _ h => h) (Or.inr ⟨by kernel_rfl, rfl⟩) HS3.out ?_
        simp only [Act.put, List.setIfInBounds_toArray, List.set_cons_zero, List.set_cons_succ]
        refine any_take (i := 42) (some 97) (undef) rfl (by rfl) (by kernel_rfl) (by kernel_rfl) (by kernel_rfl) (fun _ _ _ h => h) (Or.inr ⟨by kernel_rfl, rfl⟩) HS3.out ?_
        simp only [Act.put, List.setIfInBounds_toArray, List.set_cons_zero, List.set_cons_succ]
        refine any_take (i := 43) (some 98) (undef) rfl (by rfl) (by kernel_rfl) (by kernel_rfl) (by kernel_rfl) (fun _ _ _ h => h) (Or.inr ⟨by kernel_rfl, rfl⟩) HS3.out ?_
        simp only [Act.put, List.setIfInBounds_toArray, List.set_cons_zero, List.set_cons_succ]
        refine any_take (i := 44) (some 99) (.bool false) rfl (by rfl) (by kernel_rfl) (by kernel_rfl) (by kernel_rfl) (fun _ _ _ h => h) (Or.inl ⟨by kernel_rfl, (fun w hw => by clear hw; go_simp)⟩) HS3.out ?_
        simp only [Act.put, List.setIfInBounds_toArray, List.set_cons_zero, List.set_cons_succ]
        refine any_take (i := 45) (some 100) (.bool false) rfl (by rfl) (by kernel_rfl) (by kernel_rfl) (by kernel_rfl) (fun _ _ _ h => h) (Or.inl ⟨by kernel_rfl, (fun w hw => by clear hw; go_simp)⟩) HS3.out ?_
        simp only [Act.put, List.setIfInBounds_toArray, List.set_cons_zero, List.set_cons_succ]
        refine wpAnyH_done (by kernel_rfl) ?_ _
        go_wp2_with fail
        go_roundw
        case rel => exact ⟨k + 1, by omega, by go_num, HB.out.trans ((HB8.out.trans (Below.mono HS3.out HB8.out.size)).mono hz)⟩
        case measure => simp [intOf]; omega
    · obtain rfl : k = lm := by omega
      have HBR := Lib.hid (HB2.out.trans ((HI.out.below.trans (HB.out.mono HI.out.below.size)).mono HB2.out.size))
      have HIR := Lib.hid hIr
      have hout : ¬ (0 ≤ (k : Int) ∧ (k : Int) < (R.map rG).length) := by have := HML.out.1; have := HLM.out; simp; omega
      have hvr := var_graph wr w2.heap.size g mb vg L (R.map rG) hIr.graph ask HASK.out
      have hrv : ∀ W, Below wr.heap.size wr W → Calls Try.prog 21 #[.slice Am k cm, .int .i64 ask] W fun e w' => e = .returned (.int .i64 (ivar (R.map rG) ask)) ∧ Below W.heap.size W w' := fun W hW => by
        have h := rvar_graph W (.slice Am M.length cm) M (hIr.model.row.1.below hW) (by have := HML.out.1; omega) ask
        rw [HML.out.2, HLM.out] at h
        exact h
      clear hIr
      cases hgv : gvar (R.map rG) ask with
      | none =>
        have e1 : ivar (R.map rG) ask = -1 := by unfold ivar; rw [hgv]
        have hmx : ∀ W, (Builtin.max_ #[3, 3] 3 #[.int .i64 0, .int .i64 (-1)]).run Try.prog W = .ok (.int .i64 0) W := fun W => by kernel_rfl
        rw [hgv] at hvr
        rw [e1] at hrv
        have VAR := Lib.hid (show Calls Try.prog 20 #[.pointer (some ⟨g, 0, none⟩), .int .i64 ask] wr fun e w' => e = .returned (.tuple #[.int .i64 0, .bool false]) ∧ Below wr.heap.size wr w' from hvr)
        have RV := Lib.hid hrv
        clear hvr hrv hgv e1
        go_wp2_with fail
        refine VAR.out.mono ?_
        rintro e w8 ⟨rfl, hb8⟩
        have HB8 := Lib.hid hb8
        have HNO := Lib.hid (name_out w8 w2.heap.size g mb vg L (R.map rG) (HIR.out.graph.below hb8) (k : Int) hout)
        clear hb8
        go_wp2_with fail
        refine HNO.out.mono ?_
        rintro e w9 ⟨rfl, hb9⟩
        have HB9 := Lib.hid (HB8.out.trans (hb9.mono HB8.out.size))
        clear hb9
        go_wp2_with fail
        refine (RV.out w9 HB9.out).mono ?_
        rintro e w10 ⟨rfl, hb10⟩
        have HB10 := Lib.hid (HB9.out.trans (hb10.mono HB9.out.size))
        clear hb10
        go_wp2_with fail
        refine (RV.out w10 HB10.out).mono ?_
        rintro e w11 ⟨rfl, hb11⟩
        have HB11 := Lib.hid (HB10.out.trans (hb11.mono HB10.out.size))
        clear hb11
        go_wp2_with fail
        refine (kind_out w11 w2.heap.size g mb vg L (R.map rG) (HIR.out.graph.below HB11.out) (-1) (by omega)).mono ?_
        rintro e w12 ⟨rfl, hb12⟩
        have HB12 := Lib.hid (HB11.out.trans (hb12.mono HB11.out.size))
        clear hb12
        go_wp2_with fail
        refine (kind_out w12 w2.heap.size g mb vg L (R.map rG) (HIR.out.graph.below HB12.out) (k : Int) hout).mono ?_
        rintro e w13 ⟨rfl, hb13⟩
        have HB13 := Lib.hid (HB12.out.trans (hb13.mono HB12.out.size))
        clear hb13
        go_wp2_with fail
        refine (parts_out w13 w2.heap.size g mb vg L (R.map rG) (HIR.out.graph.below HB13.out) (k : Int) hout).mono ?_
        rintro e w14 ⟨rfl, hb14⟩
        have HB14 := Lib.hid (HB13.out.trans (hb14.mono HB13.out.size))
        clear hb14
        go_wp2_with fail
        refine (awake11 w14).mono ?_
        rintro e w15 ⟨rfl, hb15⟩
        have HB15 := Lib.hid (HBR.out.trans ((HB14.out.trans (hb15.mono HB14.out.size)).mono HBR.out.size))
        clear hb15
        go_wp2_with fail
        go_ret
        exact ⟨rfl, HB15.out⟩
      | some iv =>
        have e1 : ivar (R.map rG) ask = (iv : Int) := by unfold ivar; rw [hgv]
        rw [hgv] at hvr
        rw [e1] at hrv
        have VAR := Lib.hid (show Calls Try.prog 20 #[.pointer (some ⟨g, 0, none⟩), .int .i64 ask] wr fun e w' => e = .returned (.tuple #[.int .i64 (iv : Nat), .bool true]) ∧ Below wr.heap.size wr w' from hvr)
        have RV := Lib.hid hrv
        have f1 : decide ((0 : Int) ≤ (iv : Int)) = true := by simp
        clear hvr hrv hgv e1
        go_wp2_with fail
        refine VAR.out.mono ?_
        rintro e w8 ⟨rfl, hb8⟩
        have HB8 := Lib.hid hb8
        have HNO := Lib.hid (name_out w8 w2.heap.size g mb vg L (R.map rG) (HIR.out.graph.below hb8) (k : Int) hout)
        clear hb8
        go_wp2_with fail
        refine HNO.out.mono ?_
        rintro e w9 ⟨rfl, hb9⟩
        have HB9 := Lib.hid (HB8.out.trans (hb9.mono HB8.out.size))
        clear hb9
        go_wp2_with fail
        refine (RV.out w9 HB9.out).mono ?_
        rintro e w10 ⟨rfl, hb10⟩
        have HB10 := Lib.hid (HB9.out.trans (hb10.mono HB9.out.size))
        clear hb10
        go_wp2_with fail
        refine (RV.out w10 HB10.out).mono ?_
        rintro e w11 ⟨rfl, hb11⟩
        have HB11 := Lib.hid (HB10.out.trans (hb11.mono HB10.out.size))
        clear hb11
        go_wp2_with fail
        refine (kind_out w11 w2.heap.size g mb vg L (R.map rG) (HIR.out.graph.below HB11.out) (-1) (by omega)).mono ?_
        rintro e w12 ⟨rfl, hb12⟩
        have HB12 := Lib.hid (HB11.out.trans (hb12.mono HB11.out.size))
        clear hb12
        go_wp2_with fail
        refine (kind_out w12 w2.heap.size g mb vg L (R.map rG) (HIR.out.graph.below HB12.out) (k : Int) hout).mono ?_
        rintro e w13 ⟨rfl, hb13⟩
        have HB13 := Lib.hid (HB12.out.trans (hb13.mono HB12.out.size))
        clear hb13
        go_wp2_with fail
        refine (parts_out w13 w2.heap.size g mb vg L (R.map rG) (HIR.out.graph.below HB13.out) (k : Int) hout).mono ?_
        rintro e w14 ⟨rfl, hb14⟩
        have HB14 := Lib.hid (HB13.out.trans (hb14.mono HB13.out.size))
        clear hb14
        go_wp2_with fail
        refine (awake11 w14).mono ?_
        rintro e w15 ⟨rfl, hb15⟩
        have HB15 := Lib.hid (HBR.out.trans ((HB14.out.trans (hb15.mono HB14.out.size)).mono HBR.out.size))
        clear hb15
        go_wp2_with fail
        go_ret
        exact ⟨rfl, HB15.out⟩
end Go.Proofs.Ytbdckmnppeglfaa
