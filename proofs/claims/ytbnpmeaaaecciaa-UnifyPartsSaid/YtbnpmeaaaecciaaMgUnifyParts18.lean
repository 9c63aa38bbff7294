/- Texts of one proof, one behind the other. -/
import Derived.Test.YtbnpmeaaaecciaaMgUnifyParts17
import Derived.Test.YtbnpmeaaaecciaaMgUnifyParts1
import Derived.Test.YtbnpmeaaaecciaaMgUnifyParts9
import Derived.Test.YtbnpmeaaaecciaaMgUnifyParts12
import Derived.ProofKit
import Derived.OpenShut
import Derived.Deep.Slices
import Derived.Deep.CutBlock
import Derived.Deep.DeepCutAuto
/- The answer's graph: Add, walked. -/
namespace Go.Proofs.Ytbnpmeaaaecciaa
open Go.RowKit Go.Shelf
attribute [local go_sem ↓] builtin_app
set_option maxRecDepth 100000
theorem Vok.at {F : Fo} (h : Vok F) (j : Nat) (hj : j < F.len) : ((F.at_ j).1 = 1 → (F.at_ j).2.2.2 = .nil) ∧ Vok (F.at_ j).2.2.2 := by
  induction F generalizing j with
  | nil => simp [Fo.len] at hj
  | cons k n u ps r _ ih =>
    cases j with
    | zero => exact ⟨h.1, h.2.1⟩
    | succ j => exact ih h.2.2 j (by simp only [Fo.len] at hj; omega)
set_option maxHeartbeats 8000000 in
theorem raddw_any (BT m : Nat) : ∀ (D : Nat → Prop) (F : Fo) (k n : Int) (u : Sl) (w : World) (M : List Rm) (vm : Value), F.size < m → M.length + F.size ≤ 100000 → BT ≤ w.heap.size → TyV BT w F (slv u) → (k = 1 → F = .nil) → Vok F → (∀ b, w.heap.size ≤ b → D b) → RgM D BT w vm M →
    Calls Try.prog 44 #[vm, tyVal k n (slv u)] w (AddsTo D BT w M k n u F) := by
  induction m with
  | zero => intro D F k n u w M vm h; omega
  | succ m ih =>
    intro D F k n u w M vm hm hs hT h hk1 hvk hD hR
    obtain ⟨A, u2, c⟩ := u
    obtain rfl : u2 = F.len := TyV.len (u := (A, u2, c)) h
    obtain ⟨A0, c00, rfl⟩ := hR.row.1.form
    obtain ⟨W0, hW0⟩ : ∃ W0, w.alloc (.cells #[.int .i64 k, .int .i64 n, .slice A F.len c] 36) = W0 := ⟨_, rfl⟩
    have hb0 : Below w.heap.size w W0 := by rw [← hW0]; exact (Below.refl _ _).alloc (Nat.le_refl _) _
    have hx0 : W0.heap[w.heap.size]? = some (Obj.cells #[.int .i64 k, .int .i64 n, .slice A F.len c] 36) := by rw [← hW0]; exact heap_alloc_new w _
    have hl0 : w.heap.size < W0.heap.size := (Array.getElem?_eq_some_iff.1 hx0).1
    have x0 : W0.cell? ⟨w.heap.size, 0, none⟩ = some (.int .i64 k) := cell_of_row W0 _ 0 _ _ (0, 0) hx0
    have x1 : W0.cell? ⟨w.heap.size, 1, none⟩ = some (.int .i64 n) := cell_of_row W0 _ 1 _ _ (0, 0) hx0
    have x2 : W0.cell? ⟨w.heap.size, 2, none⟩ = some (.slice A F.len c) := cell_of_row W0 _ 2 _ _ (0, 0) hx0
    have H := Lib.hid h
    have IH := Lib.hid ih
    have HR := Lib.hid hR
    have HT := Lib.hid hT
    have HV := Lib.hid hvk
    have HK := Lib.hid hk1
    have HD := Lib.hid hD
    have HSZ := Lib.hid hs
    have HM := Lib.hid hm
    have hll := F.len_le_size
    have hlen : F.len ≤ 100000 := by omega
    have hml6 : M.length ≤ 1000000 := by omega
    clear h ih hR hT hvk hk1 hD hx0 hll
    unfold tyVal
    dsimp only [slv]
    go_enter Try.func44, Try.ntmps44
    by_cases h1 : k = 1
    · subst h1
      have hvar := rvar_graph W0 _ M (HR.out.row.1.below hb0) hml6 n
      have HVR := Lib.hid hvar
      have HB0 := Lib.hid hb0
      clear hvar hb0
      go_wp2_with fail
      refine HVR.out.mono ?_
      rintro e wx ⟨rfl, hbx⟩
      have y0 : wx.cell? ⟨w.heap.size, 0, none⟩ = some (.int .i64 1) := (hbx.cell (p := ⟨w.heap.size, 0, none⟩) hl0).trans x0
      have y1 : wx.cell? ⟨w.heap.size, 1, none⟩ = some (.int .i64 n) := (hbx.cell (p := ⟨w.heap.size, 1, none⟩) hl0).trans x1
      have y2 : wx.cell? ⟨w.heap.size, 2, none⟩ = some (.slice A F.len c) := (hbx.cell (p := ⟨w.heap.size, 2, none⟩) hl0).trans x2
      have hl1 : w.heap.size < wx.heap.size := Nat.lt_of_lt_of_le hl0 hbx.size
      have HBX := Lib.hid (HB0.out.trans (hbx.mono (Nat.le_of_lt hl0)))
      obtain ⟨z, hz⟩ : ∃ z, ivar (gM M) n = z := ⟨_, rfl⟩
      rw [hz]
      have HZ := Lib.hid hz
      clear x0 x1 x2 hbx hz
      by_cases hz0 : 0 ≤ z
      · have f1 : decide (0 ≤ z) = true := decide_eq_true hz0
        go_wp2_with fail
        have hz := HZ.out
        subst hz
        obtain ⟨i, hi, hi2⟩ := ivar_nonneg hz0
        have hF : F = .nil := by first | exact HK.out rfl | exact HK.out trivial
        refine bodyPost_ret (results_tmp2 rfl _ _ _) rfl ⟨_, M, ?_, ?_, HR.out.below HT.out HBX.out, HBX.out⟩
        · rw [hi2, radd1_eq, hF, radd_nil, rnode, if_pos rfl, ← gM_eq, hi]
          rfl
        · rw [radd1_eq, hF, radd_nil, rnode, if_pos rfl, ← gM_eq, hi]
      · have f1 : decide (0 ≤ z) = false := decide_eq_false hz0
        have x0 := y0
        have x1 := y1
        have x2 := y2
        have hl0 := hl1
        clear y0 y1 y2 hl1
        have HGN := Lib.hid (show (1 : Int) = 1 → gvar (gM M) n = none from fun _ => ivar_neg (by rw [HZ.out]; omega))
        have hN0 := RaI.start (k := 1) (n := n) (u := (A, F.len, c)) (F := F) (HR.out.below HT.out HBX.out) (Nat.le_trans HT.out HBX.out.size)
        dsimp only [slv] at hN0
        obtain ⟨w1, hw1⟩ : ∃ w1, wx.alloc (.cells #[.int .i64 1, .int .i64 n, .slice A F.len c, .slice none 0 0] 54) = w1 := ⟨_, rfl⟩
        rw [hw1] at hN0
        have HI := Lib.hid hN0
        have hbz := HBX.out.size
        have HW1 := Lib.hid hw1
        clear hN0 hw1
        go_wp2_with fail
        rw [HW1.out]
        go_loopw [0, 8] (fun t0 t8 wr => ∃ j : Nat, j ≤ F.len ∧ t8 = .int .i64 j ∧ RaI D BT wx M 1 n (A, F.len, c) F j t0 wr) (fun _ t _ => F.len - (intOf t).toNat)
        case atStart => exact ⟨0, Nat.zero_le _, rfl, HI.out⟩
        case round =>
          obtain ⟨j, hj, rfl, Mj, vq, hMj, hM1, hbox, hq, hb, hsz⟩ := hrel
          have hbb := HBX.out.trans (hb.mono hbz)
          have e0 : wr.cell? ⟨w.heap.size, 0, none⟩ = some (.int .i64 1) := (hb.cell (p := ⟨w.heap.size, 0, none⟩) (by simp only; omega)).trans x0
          have e1 : wr.cell? ⟨w.heap.size, 1, none⟩ = some (.int .i64 n) := (hb.cell (p := ⟨w.heap.size, 1, none⟩) (by simp only; omega)).trans x1
          have e2 : wr.cell? ⟨w.heap.size, 2, none⟩ = some (.slice A F.len c) := (hb.cell (p := ⟨w.heap.size, 2, none⟩) (by simp only; omega)).trans x2
          by_cases hjl : j < F.len
          · obtain ⟨b, off, cap, hv, _, _, hlt, hC⟩ := H.out.form (by omega)
            injection hv with hA _ hcc
            subst hA; subst hcc
            obtain ⟨d0, d1, d2, hch⟩ := tyC_at hC j hjl
            have hltw : b < w.heap.size := Nat.lt_of_lt_of_le hlt HT.out
            have c0 := (hbb.cell (p := ⟨b, off + j * 3, none⟩) hltw).trans d0
            have c1 := (hbb.cell (p := ⟨b, off + j * 3 + 1, none⟩) hltw).trans d1
            have c2 := (hbb.cell (p := ⟨b, off + j * 3 + 2, none⟩) hltw).trans d2
            have hch' : TyV BT wr (F.at_ j).2.2.2 (slv (F.at_ j).2.2.1) := hch.below (hbb.mono HT.out)
            have hat := F.at_size j hjl
            have hst := F.size_take_step j hjl
            have hle := F.size_take_le (j + 1)
            have hrl := (radd_len (F.take j) (M1 M)).1
            have hml : Mj.length = (M1 Mj).length := by simp [M1]
            rw [← hM1, ← hml] at hrl
            simp only [M1, List.length_map] at hrl
            obtain ⟨hvk, hvp⟩ := HV.out.at j hjl
            obtain ⟨A0', c0', rfl⟩ := hMj.row.1.form
            have hrec := IH.out (fun b => D b ∧ b ≠ wx.heap.size ∧ vq.ownBlock ≠ some b) (F.at_ j).2.2.2 (F.at_ j).1 (F.at_ j).2.1 (F.at_ j).2.2.1 wr Mj (.slice A0' Mj.length c0') (by omega) (by omega) (Nat.le_trans HT.out (Nat.le_trans HBX.out.size hb.size)) hch' hvk hvp (fun b hb2 => ⟨HD.out b (by have := hb.size; omega), by have := hb.size; omega, fun e => by have := (hq.lt b e).2; omega⟩) hMj
            have hstep := fun (M5 : List Rm) (v5 : Value) (w5 : World) h1 h2 h3 i h4 => RaI.step (D := D) (BT := BT) (wx := wx) (M := M) (k := 1) (n := n) (u := (some ⟨b, off, none⟩, F.len, c)) (F := F) (j := j) hjl HSZ.out (Nat.le_trans HT.out HBX.out.size) (Mj := Mj) (M5 := M5) (vq := vq) (v5 := v5) (wr := wr) (w5 := w5) h1 hM1 hbox hq hb hsz h2 h3 i h4
            have HST := Lib.hid hstep
            have HBW := Lib.hid (And.intro hb hsz)
            clear d0 d1 d2 hC hch hstep hbb hst hle hrl hml hat hvk hvp
            unfold tyVal at hrec
            generalize F.at_ j = p at *
            obtain ⟨pk, pn, ⟨p1, p2, p3⟩, pf⟩ := p
            dsimp only [slv] at c0 c1 c2 hrec
            have HREC := Lib.hid hrec
            have HMJ := Lib.hid hMj
            obtain ⟨Aq, cq, rfl, -, -⟩ := own_form hq
            obtain ⟨lq, hlq⟩ : ∃ lq, (radd (M1 M) (F.take j)).2.length = lq := ⟨_, rfl⟩
            have HLQ := Lib.hid hlq
            rw [hlq] at HST HREC
            have HQ := Lib.hid hq
            clear hrec hch' hMj hM1 hbox hq hb hlq
            go_wp2_with fail
            refine HREC.out.mono ?_
            rintro e w5 ⟨v5, M5, rfl, hM5, hR5, hb5⟩
            obtain ⟨i, hi⟩ : ∃ i : Nat, (radd1 (M1 Mj) pk pn (p1, p2, p3) pf).2 = i := ⟨_, rfl⟩
            obtain ⟨A6, n6, c6, w6, run6, z5, z6, zf, hfin⟩ := HST.out M5 v5 w5 hR5 hM5 hb5 i hi.symm
            rw [hi]
            have HFIN := Lib.hid hfin
            obtain ⟨A5, c5, rfl⟩ := hR5.row.1.form
            clear hM5 hR5 hb5 hi hfin
            go_wp2_with fail
            go_roundw
            case rel => exact ⟨j + 1, by omega, by go_num, HFIN.out⟩
            case measure => simp [intOf]; omega
          · obtain rfl : j = F.len := by omega
            rw [Fo.take_len] at hM1 hq
            obtain ⟨R, P, hRP⟩ : ∃ R P, radd (M1 M) F = (R, P) := ⟨_, _, rfl⟩
            rw [hRP] at hM1 hq
            dsimp only at hM1 hq
            have hrl := radd_len F (M1 M)
            rw [hRP] at hrl
            dsimp only at hrl
            have hml : Mj.length = R.length := by rw [← hM1]; simp [M1]
            have hmm : (M1 M).length = M.length := by simp [M1]
            obtain ⟨A0', c0', rfl⟩ := hMj.row.1.form
            obtain ⟨Aq, cq, rfl, -, -⟩ := own_form hq
            have b0 : wr.cell? ⟨wx.heap.size, 0, none⟩ = some (.int .i64 1) := cell_of_row wr _ 0 _ _ (0, 0) hbox
            have b1 : wr.cell? ⟨wx.heap.size, 1, none⟩ = some (.int .i64 n) := cell_of_row wr _ 1 _ _ (0, 0) hbox
            have b2 : wr.cell? ⟨wx.heap.size, 2, none⟩ = some (.slice A F.len c) := cell_of_row wr _ 2 _ _ (0, 0) hbox
            have b3 : wr.cell? ⟨wx.heap.size, 3, none⟩ = some (.slice Aq P.length cq) := cell_of_row wr _ 3 _ _ (0, 0) hbox
            obtain ⟨lm, hlm⟩ : ∃ lm, Mj.length = lm := ⟨_, rfl⟩
            obtain ⟨lp, hlp⟩ : ∃ lp, P.length = lp := ⟨_, rfl⟩
            have ex : ∀ W, LS wr W → W.cell? ⟨wx.heap.size, 0, none⟩ = some (.int .i64 1) ∧ W.cell? ⟨wx.heap.size, 1, none⟩ = some (.int .i64 n) ∧ W.cell? ⟨wx.heap.size, 2, none⟩ = some (.slice A F.len c) ∧ W.cell? ⟨wx.heap.size, 3, none⟩ = some (.slice Aq lp cq) := fun W hW =>
              ⟨(Below.cell hW (p := ⟨wx.heap.size, 0, none⟩) (by simp only; omega)).trans b0, (Below.cell hW (p := ⟨wx.heap.size, 1, none⟩) (by simp only; omega)).trans b1, (Below.cell hW (p := ⟨wx.heap.size, 2, none⟩) (by simp only; omega)).trans b2, (Below.cell hW (p := ⟨wx.heap.size, 3, none⟩) (by simp only; omega)).trans (by rw [← hlp]; exact b3)⟩
            have hrd : Rd wr 4 (.slice A0' lm c0') lm (Mj.flatMap rmC) := by rw [← hlm]; exact hMj.row.1
            have EX := Lib.hid ex
            have HRD := Lib.hid hrd
            have HLM := Lib.hid (And.intro hlm hlp)
            have HLS := Lib.hid (show LS wr wr from Below.refl _ _)
            have hlm9 : lm + 1 ≤ 1000000 := by have := hrl.1; have := hmm; have := hml; omega
            have HFIN := Lib.hid (And.intro hMj (And.intro hM1 (And.intro hq (And.intro hb hRP))))
            rw [hlm]
            clear ex hrd hMj hM1 hbox hq hb hRP hrl hml hlm hlp b0 b1 b2 b3 hmm
            go_wp2_with fail
            refine wp_region_held (S := LS wr) (by kernel_rfl) ?_
            change wpAnyH _ _ _ _ _ 10 (List.replicate 10 false).toArray _ wr.drew
            have HLD := Lib.hid (show LS wr wr.drew from (Below.refl _ _).drew)
            simp only [List.replicate_succ, List.replicate_zero]
            refine any_take (i := 1) (some 49) (.slice A0' lm c0') rfl (by rfl) (by kernel_rfl) (by kernel_rfl) (by kernel_rfl) (fun _ _ _ h => h) (Or.inl ⟨by kernel_rfl, (fun w hw => by clear hw; go_simp)⟩) HLD.out ?_
            simp only [Act.put, List.setIfInBounds_toArray, List.set_cons_zero, List.set_cons_succ]
            refine any_take (i := 3) (some 51) (.agg #[.int .i64 1, .int .i64 n, .slice A F.len c, .slice Aq lp cq]) rfl (by rfl) (by kernel_rfl) (by kernel_rfl) (by kernel_rfl) (fun _ _ _ h => h) (Or.inl ⟨by kernel_rfl, (fun w hw => by obtain ⟨n0, n1, n2, n3⟩ := EX.out w hw; clear hw; go_simp)⟩) HLD.out ?_
            simp only [Act.put, List.setIfInBounds_toArray, List.set_cons_zero, List.set_cons_succ]
            refine any_take (i := 6) (some 54) (.slice A0' lm c0') rfl (by rfl) (by kernel_rfl) (by kernel_rfl) (by kernel_rfl) (fun _ _ _ h => h) (Or.inl ⟨by kernel_rfl, (fun w hw => by clear hw; go_simp)⟩) HLD.out ?_
            simp only [Act.put, List.setIfInBounds_toArray, List.set_cons_zero, List.set_cons_succ]
            refine any_take (i := 7) (some 55) (.int .i64 lm) rfl (by rfl) (by kernel_rfl) (by kernel_rfl) (by kernel_rfl) (fun _ _ _ h => h) (Or.inl ⟨by kernel_rfl, (fun w hw => by clear hw; go_simp)⟩) HLD.out ?_
            simp only [Act.put, List.setIfInBounds_toArray, List.set_cons_zero, List.set_cons_succ]
            obtain ⟨ti, hti, hz0, hz1, hz2⟩ := info_parts nodeInfo
            refine any_copy (i0 := 0) (i1 := 2) (i2 := 4) (i3 := 5) (d0 := 48) (d1 := 50) (d2 := 52) (d3 := 53) (ts := 49) (t := 42) (e := 54) (size := 4) rfl rfl rfl rfl rfl rfl rfl rfl rfl rfl rfl rfl (by decide) (by decide) (by simp) (by kernel_rfl) (by kernel_rfl) (by kernel_rfl) (by kernel_rfl) (by kernel_rfl) (by kernel_rfl)
              Try.underlying42 hti hz0 hz1 hz2 rfl (by omega) (fun ev w => by go_simp) [.int .i64 1, .int .i64 n, .slice A F.len c, .slice Aq lp cq] rfl (by intro u hu; simp only [List.mem_cons, List.not_mem_nil, or_false] at hu; rcases hu with rfl | rfl | rfl | rfl <;> rfl)
              (fun a' ha w => by have h : a'.eval (.tmp 51) = .agg #[.int .i64 1, .int .i64 n, .slice A F.len c, .slice Aq lp cq] := (ha 51 (by decide) (by decide)).trans (by rfl); simp only [Act.eval, Array.getD_eq_getD_getElem?] at h; go_simp) (by rfl) (by rfl) (by rfl) (by rfl) (by rfl) (HRD.out.drew) (rmC_one _) (by unfold maxLen; omega) (by omega) HLD.out ?_
            intro v0 v1 v2 v3 w' hLS hBw hown
            have HE := Lib.hid (And.intro hLS hown)
            have hLS2 := hLS
            clear hLS hBw hown
            simp only [Act.put, List.setIfInBounds_toArray, List.set_cons_zero, List.set_cons_succ]
            refine any_take (i := 8) (some 4) v3 rfl (by rfl) (by kernel_rfl) (by kernel_rfl) (by kernel_rfl) (fun _ _ _ h => h) (Or.inl ⟨by kernel_rfl, (fun w hw => by clear hw; go_simp)⟩) hLS2 ?_
            simp only [Act.put, List.setIfInBounds_toArray, List.set_cons_zero, List.set_cons_succ]
            refine any_take (i := 9) (some 5) (.int .i64 lm) rfl (by rfl) (by kernel_rfl) (by kernel_rfl) (by kernel_rfl) (fun _ _ _ h => h) (Or.inl ⟨by kernel_rfl, (fun w hw => by clear hw; go_simp)⟩) hLS2 ?_
            simp only [Act.put, List.setIfInBounds_toArray, List.set_cons_zero, List.set_cons_succ]
            refine wpAnyH_done (by kernel_rfl) ?_ _
            go_wp2_with fail
            obtain ⟨hMj, hM1, hq, hb, hRP⟩ := HFIN.out
            obtain ⟨hLS3, hown⟩ := HE.out
            have hst : radd1 (M1 M) 1 n (A, F.len, c) F = (R ++ [(1, n, (A, F.len, c), F, P)], R.length) := by
              rw [radd1_eq, hRP]
              refine rnode_else R 1 n _ F P fun e => ?_
              have h1 : F = .nil := by first | exact HK.out e | exact HK.out trivial
              rw [h1, radd_nil] at hRP
              injection hRP with h2 h3
              rw [← h2, ← gM_eq]
              first | exact HGN.out e | exact HGN.out trivial
            have hlR : lm = R.length := by rw [← HLM.out.1, ← hM1]; simp [M1]
            have hbW : Below wr.heap.size wr w' := hLS3
            refine bodyPost_ret (results_tmp2 rfl _ _ _) rfl ?_
            refine ⟨v3, Mj ++ [((1, n, (A, F.len, c), F, P), (Aq, P.length, cq))], ?_, ?_, ?_, HBX.out.trans ((hb.trans (hbW.mono hb.size)).mono HBX.out.size)⟩
            · rw [hst, ← hlR]; rfl
            · rw [hst]; simp [M1, ← hM1]
            · have hTw := Nat.le_trans HT.out (Nat.le_trans HBX.out.size hb.size)
              refine ((hMj.below hTw hbW).imp fun b _ h => h.1).snoc ⟨H.out.below ((HBX.out.trans ((hb.trans (hbW.mono hb.size)).mono HBX.out.size)).mono HT.out), RdD.of_own (own_below hq hbW) fun b hb2 => HD.out b (by have := HBX.out.size; omega)⟩ ?_
              have hd := RdD.of_own (D := D) hown fun b hb2 => HD.out b (Nat.le_trans (Nat.le_trans HBX.out.size hb.size) hb2)
              rw [HLM.out.1]
              rw [← HLM.out.2] at hd
              exact hd
    · have hk0 : (k == 1) = false := by simpa using h1
      obtain ⟨wx, hwx⟩ : ∃ wx, wx = W0 := ⟨_, rfl⟩
      subst hwx
      have HBX := Lib.hid hb0
      have HGN := Lib.hid (show k = 1 → gvar (gM M) n = none from fun e => absurd e h1)
      clear hb0
      have hN0 := RaI.start (k := k) (n := n) (u := (A, F.len, c)) (F := F) (HR.out.below HT.out HBX.out) (Nat.le_trans HT.out HBX.out.size)
      dsimp only [slv] at hN0
      obtain ⟨w1, hw1⟩ : ∃ w1, wx.alloc (.cells #[.int .i64 k, .int .i64 n, .slice A F.len c, .slice none 0 0] 54) = w1 := ⟨_, rfl⟩
      rw [hw1] at hN0
      have HI := Lib.hid hN0
      have hbz := HBX.out.size
      have HW1 := Lib.hid hw1
      clear hN0 hw1
      go_wp2_with fail
      rw [HW1.out]
      go_loopw [0, 8] (fun t0 t8 wr => ∃ j : Nat, j ≤ F.len ∧ t8 = .int .i64 j ∧ RaI D BT wx M k n (A, F.len, c) F j t0 wr) (fun _ t _ => F.len - (intOf t).toNat)
      case atStart => exact ⟨0, Nat.zero_le _, rfl, HI.out⟩
      case round =>
        obtain ⟨j, hj, rfl, Mj, vq, hMj, hM1, hbox, hq, hb, hsz⟩ := hrel
        have hbb := HBX.out.trans (hb.mono hbz)
        have e0 : wr.cell? ⟨w.heap.size, 0, none⟩ = some (.int .i64 k) := (hb.cell (p := ⟨w.heap.size, 0, none⟩) (by simp only; omega)).trans x0
        have e1 : wr.cell? ⟨w.heap.size, 1, none⟩ = some (.int .i64 n) := (hb.cell (p := ⟨w.heap.size, 1, none⟩) (by simp only; omega)).trans x1
        have e2 : wr.cell? ⟨w.heap.size, 2, none⟩ = some (.slice A F.len c) := (hb.cell (p := ⟨w.heap.size, 2, none⟩) (by simp only; omega)).trans x2
        by_cases hjl : j < F.len
        · obtain ⟨b, off, cap, hv, _, _, hlt, hC⟩ := H.out.form (by omega)
          injection hv with hA _ hcc
          subst hA; subst hcc
          obtain ⟨d0, d1, d2, hch⟩ := tyC_at hC j hjl
          have hltw : b < w.heap.size := Nat.lt_of_lt_of_le hlt HT.out
          have c0 := (hbb.cell (p := ⟨b, off + j * 3, none⟩) hltw).trans d0
          have c1 := (hbb.cell (p := ⟨b, off + j * 3 + 1, none⟩) hltw).trans d1
          have c2 := (hbb.cell (p := ⟨b, off + j * 3 + 2, none⟩) hltw).trans d2
          have hch' : TyV BT wr (F.at_ j).2.2.2 (slv (F.at_ j).2.2.1) := hch.below (hbb.mono HT.out)
          have hat := F.at_size j hjl
          have hst := F.size_take_step j hjl
          have hle := F.size_take_le (j + 1)
          have hrl := (radd_len (F.take j) (M1 M)).1
          have hml : Mj.length = (M1 Mj).length := by simp [M1]
          rw [← hM1, ← hml] at hrl
          simp only [M1, List.length_map] at hrl
          obtain ⟨hvk, hvp⟩ := HV.out.at j hjl
          obtain ⟨A0', c0', rfl⟩ := hMj.row.1.form
          have hrec := IH.out (fun b => D b ∧ b ≠ wx.heap.size ∧ vq.ownBlock ≠ some b) (F.at_ j).2.2.2 (F.at_ j).1 (F.at_ j).2.1 (F.at_ j).2.2.1 wr Mj (.slice A0' Mj.length c0') (by omega) (by omega) (Nat.le_trans HT.out (Nat.le_trans HBX.out.size hb.size)) hch' hvk hvp (fun b hb2 => ⟨HD.out b (by have := hb.size; omega), by have := hb.size; omega, fun e => by have := (hq.lt b e).2; omega⟩) hMj
          have hstep := fun (M5 : List Rm) (v5 : Value) (w5 : World) h1 h2 h3 i h4 => RaI.step (D := D) (BT := BT) (wx := wx) (M := M) (k := k) (n := n) (u := (some ⟨b, off, none⟩, F.len, c)) (F := F) (j := j) hjl HSZ.out (Nat.le_trans HT.out HBX.out.size) (Mj := Mj) (M5 := M5) (vq := vq) (v5 := v5) (wr := wr) (w5 := w5) h1 hM1 hbox hq hb hsz h2 h3 i h4
          have HST := Lib.hid hstep
          have HBW := Lib.hid (And.intro hb hsz)
          clear d0 d1 d2 hC hch hstep hbb hst hle hrl hml hat hvk hvp
          unfold tyVal at hrec
          generalize F.at_ j = p at *
          obtain ⟨pk, pn, ⟨p1, p2, p3⟩, pf⟩ := p
          dsimp only [slv] at c0 c1 c2 hrec
          have HREC := Lib.hid hrec
          have HMJ := Lib.hid hMj
          obtain ⟨Aq, cq, rfl, -, -⟩ := own_form hq
          obtain ⟨lq, hlq⟩ : ∃ lq, (radd (M1 M) (F.take j)).2.length = lq := ⟨_, rfl⟩
          have HLQ := Lib.hid hlq
          rw [hlq] at HST HREC
          have HQ := Lib.hid hq
          clear hrec hch' hMj hM1 hbox hq hb hlq
          go_wp2_with fail
          refine HREC.out.mono ?_
          rintro e w5 ⟨v5, M5, rfl, hM5, hR5, hb5⟩
          obtain ⟨i, hi⟩ : ∃ i : Nat, (radd1 (M1 Mj) pk pn (p1, p2, p3) pf).2 = i := ⟨_, rfl⟩
          obtain ⟨A6, n6, c6, w6, run6, z5, z6, zf, hfin⟩ := HST.out M5 v5 w5 hR5 hM5 hb5 i hi.symm
          rw [hi]
          have HFIN := Lib.hid hfin
          obtain ⟨A5, c5, rfl⟩ := hR5.row.1.form
          clear hM5 hR5 hb5 hi hfin
          go_wp2_with fail
          go_roundw
          case rel => exact ⟨j + 1, by omega, by go_num, HFIN.out⟩
          case measure => simp [intOf]; omega
        · obtain rfl : j = F.len := by omega
          rw [Fo.take_len] at hM1 hq
          obtain ⟨R, P, hRP⟩ : ∃ R P, radd (M1 M) F = (R, P) := ⟨_, _, rfl⟩
          rw [hRP] at hM1 hq
          dsimp only at hM1 hq
          have hrl := radd_len F (M1 M)
          rw [hRP] at hrl
          dsimp only at hrl
          have hml : Mj.length = R.length := by rw [← hM1]; simp [M1]
          have hmm : (M1 M).length = M.length := by simp [M1]
          obtain ⟨A0', c0', rfl⟩ := hMj.row.1.form
          obtain ⟨Aq, cq, rfl, -, -⟩ := own_form hq
          have b0 : wr.cell? ⟨wx.heap.size, 0, none⟩ = some (.int .i64 k) := cell_of_row wr _ 0 _ _ (0, 0) hbox
          have b1 : wr.cell? ⟨wx.heap.size, 1, none⟩ = some (.int .i64 n) := cell_of_row wr _ 1 _ _ (0, 0) hbox
          have b2 : wr.cell? ⟨wx.heap.size, 2, none⟩ = some (.slice A F.len c) := cell_of_row wr _ 2 _ _ (0, 0) hbox
          have b3 : wr.cell? ⟨wx.heap.size, 3, none⟩ = some (.slice Aq P.length cq) := cell_of_row wr _ 3 _ _ (0, 0) hbox
          obtain ⟨lm, hlm⟩ : ∃ lm, Mj.length = lm := ⟨_, rfl⟩
          obtain ⟨lp, hlp⟩ : ∃ lp, P.length = lp := ⟨_, rfl⟩
          have ex : ∀ W, LS wr W → W.cell? ⟨wx.heap.size, 0, none⟩ = some (.int .i64 k) ∧ W.cell? ⟨wx.heap.size, 1, none⟩ = some (.int .i64 n) ∧ W.cell? ⟨wx.heap.size, 2, none⟩ = some (.slice A F.len c) ∧ W.cell? ⟨wx.heap.size, 3, none⟩ = some (.slice Aq lp cq) := fun W hW =>
            ⟨(Below.cell hW (p := ⟨wx.heap.size, 0, none⟩) (by simp only; omega)).trans b0, (Below.cell hW (p := ⟨wx.heap.size, 1, none⟩) (by simp only; omega)).trans b1, (Below.cell hW (p := ⟨wx.heap.size, 2, none⟩) (by simp only; omega)).trans b2, (Below.cell hW (p := ⟨wx.heap.size, 3, none⟩) (by simp only; omega)).trans (by rw [← hlp]; exact b3)⟩
          have hrd : Rd wr 4 (.slice A0' lm c0') lm (Mj.flatMap rmC) := by rw [← hlm]; exact hMj.row.1
          have EX := Lib.hid ex
          have HRD := Lib.hid hrd
          have HLM := Lib.hid (And.intro hlm hlp)
          have HLS := Lib.hid (show LS wr wr from Below.refl _ _)
          have hlm9 : lm + 1 ≤ 1000000 := by have := hrl.1; have := hmm; have := hml; omega
          have HFIN := Lib.hid (And.intro hMj (And.intro hM1 (And.intro hq (And.intro hb hRP))))
          rw [hlm]
          clear ex hrd hMj hM1 hbox hq hb hRP hrl hml hlm hlp b0 b1 b2 b3 hmm
          go_wp2_with fail
          refine wp_region_held (S := LS wr) (by kernel_rfl) ?_
          change wpAnyH _ _ _ _ _ 10 (List.replicate 10 false).toArray _ wr.drew
          have HLD := Lib.hid (show LS wr wr.drew from (Below.refl _ _).drew)
          simp only [List.replicate_succ, List.replicate_zero]
          refine any_take (i := 1) (some 49) (.slice A0' lm c0') rfl (by rfl) (by kernel_rfl) (by kernel_rfl) (by kernel_rfl) (fun _ _ _ h => h) (Or.inl ⟨by kernel_rfl, (fun w hw => by clear hw; go_simp)⟩) HLD.out ?_
          simp only [Act.put, List.setIfInBounds_toArray, List.set_cons_zero, List.set_cons_succ]
          refine any_take (i := 3) (some 51) (.agg #[.int .i64 k, .int .i64 n, .slice A F.len c, .slice Aq lp cq]) rfl (by rfl) (by kernel_rfl) (by kernel_rfl) (by kernel_rfl) (fun _ _ _ h => h) (Or.inl ⟨by kernel_rfl, (fun w hw => by obtain ⟨n0, n1, n2, n3⟩ := EX.out w hw; clear hw; go_simp)⟩) HLD.out ?_
          simp only [Act.put, List.setIfInBounds_toArray, List.set_cons_zero, List.set_cons_succ]
          refine any_take (i := 6) (some 54) (.slice A0' lm c0') rfl (by rfl) (by kernel_rfl) (by kernel_rfl) (by kernel_rfl) (fun _ _ _ h => h) (Or.inl ⟨by kernel_rfl, (fun w hw => by clear hw; go_simp)⟩) HLD.out ?_
          simp only [Act.put, List.setIfInBounds_toArray, List.set_cons_zero, List.set_cons_succ]
          refine any_take (i := 7) (some 55) (.int .i64 lm) rfl (by rfl) (by kernel_rfl) (by kernel_rfl) (by kernel_rfl) (fun _ _ _ h => h) (Or.inl ⟨by kernel_rfl, (fun w hw => by clear hw; go_simp)⟩) HLD.out ?_
          simp only [Act.put, List.setIfInBounds_toArray, List.set_cons_zero, List.set_cons_succ]
          obtain ⟨ti, hti, hz0, hz1, hz2⟩ := info_parts nodeInfo
          refine any_copy (i0 := 0) (i1 := 2) (i2 := 4) (i3 := 5) (d0 := 48) (d1 := 50) (d2 := 52) (d3 := 53) (ts := 49) (t := 42) (e := 54) (size := 4) rfl rfl rfl rfl rfl rfl rfl rfl rfl rfl rfl rfl (by decide) (by decide) (by simp) (by kernel_rfl) (by kernel_rfl) (by kernel_rfl) (by kernel_rfl) (by kernel_rfl) (by kernel_rfl)
            Try.underlying42 hti hz0 hz1 hz2 rfl (by omega) (fun ev w => by go_simp) [.int .i64 k, .int .i64 n, .slice A F.len c, .slice Aq lp cq] rfl (by intro u hu; simp only [List.mem_cons, List.not_mem_nil, or_false] at hu; rcases hu with rfl | rfl | rfl | rfl <;> rfl)
            (fun a' ha w => by have h : a'.eval (.tmp 51) = .agg #[.int .i64 k, .int .i64 n, .slice A F.len c, .slice Aq lp cq] := (ha 51 (by decide) (by decide)).trans (by rfl); simp only [Act.eval, Array.getD_eq_getD_getElem?] at h; go_simp) (by rfl) (by rfl) (by rfl) (by rfl) (by rfl) (HRD.out.drew) (rmC_one _) (by unfold maxLen; omega) (by omega) HLD.out ?_
          intro v0 v1 v2 v3 w' hLS hBw hown
          have HE := Lib.hid (And.intro hLS hown)
          have hLS2 := hLS
          clear hLS hBw hown
          simp only [Act.put, List.setIfInBounds_toArray, List.set_cons_zero, List.set_cons_succ]
          refine any_take (i := 8) (some 4) v3 rfl (by rfl) (by kernel_rfl) (by kernel_rfl) (by kernel_rfl) (fun _ _ _ h => h) (Or.inl ⟨by kernel_rfl, (fun w hw => by clear hw; go_simp)⟩) hLS2 ?_
          simp only [Act.put, List.setIfInBounds_toArray, List.set_cons_zero, List.set_cons_succ]
          refine any_take (i := 9) (some 5) (.int .i64 lm) rfl (by rfl) (by kernel_rfl) (by kernel_rfl) (by kernel_rfl) (fun _ _ _ h => h) (Or.inl ⟨by kernel_rfl, (fun w hw => by clear hw; go_simp)⟩) hLS2 ?_
          simp only [Act.put, List.setIfInBounds_toArray, List.set_cons_zero, List.set_cons_succ]
          refine wpAnyH_done (by kernel_rfl) ?_ _
          go_wp2_with fail
          obtain ⟨hMj, hM1, hq, hb, hRP⟩ := HFIN.out
          obtain ⟨hLS3, hown⟩ := HE.out
          have hst : radd1 (M1 M) k n (A, F.len, c) F = (R ++ [(k, n, (A, F.len, c), F, P)], R.length) := by
            rw [radd1_eq, hRP]
            refine rnode_else R k n _ F P fun e => ?_
            have h1 := HK.out e
            rw [h1, radd_nil] at hRP
            injection hRP with h2 h3
            rw [← h2, ← gM_eq]
            exact HGN.out e
          have hlR : lm = R.length := by rw [← HLM.out.1, ← hM1]; simp [M1]
          have hbW : Below wr.heap.size wr w' := hLS3
          refine bodyPost_ret (results_tmp2 rfl _ _ _) rfl ?_
          refine ⟨v3, Mj ++ [((k, n, (A, F.len, c), F, P), (Aq, P.length, cq))], ?_, ?_, ?_, HBX.out.trans ((hb.trans (hbW.mono hb.size)).mono HBX.out.size)⟩
          · rw [hst, ← hlR]; rfl
          · rw [hst]; simp [M1, ← hM1]
          · have hTw := Nat.le_trans HT.out (Nat.le_trans HBX.out.size hb.size)
            refine ((hMj.below hTw hbW).imp fun b _ h => h.1).snoc ⟨H.out.below ((HBX.out.trans ((hb.trans (hbW.mono hb.size)).mono HBX.out.size)).mono HT.out), RdD.of_own (own_below hq hbW) fun b hb2 => HD.out b (by have := HBX.out.size; omega)⟩ ?_
            have hd := RdD.of_own (D := D) hown fun b hb2 => HD.out b (Nat.le_trans (Nat.le_trans HBX.out.size hb.size) hb2)
            rw [HLM.out.1]
            rw [← HLM.out.2] at hd
            exact hd
end Go.Proofs.Ytbnpmeaaaecciaa
/- graph's laws: is there more than is asked of? -/
namespace Go.Proofs.Ytbnpmeaaaecciaa
open Go.RowKit Go.Shelf
set_option maxRecDepth 100000
end Go.Proofs.Ytbnpmeaaaecciaa
/- graph's laws: a graph, and the document's, of the same types: what stands. -/
namespace Go.Proofs.Ytbnpmeaaaecciaa
open Go.RowKit Go.Shelf
set_option maxRecDepth 100000
/-- One type more: the nodes, and those that were asked for. -/
def bOne (s : List Rn × List Nat) (k n : Int) (u : Sl) (ps : Fo) : List Rn × List Nat :=
  if allAlone (Fo.cons k n u ps .nil).pre then ((radd1 s.1 k n u ps).1, s.2 ++ [(radd1 s.1 k n u ps).2]) else s
def bAll (s : List Rn × List Nat) : Fo → List Rn × List Nat
  | .nil => s
  | .cons k n u ps r => bAll (bOne s k n u ps) r
theorem bAll_app (f g : Fo) : ∀ s, bAll s (f.app g) = bAll (bAll s f) g := by
  induction f with
  | nil => intro s; rfl
  | cons k n u ps r _ ih => intro s; simp only [Fo.app, bAll, ih]
theorem bAll_step (F : Fo) (j : Nat) (hj : j < F.len) (s : List Rn × List Nat) : bAll s (F.take (j + 1)) = bOne (bAll s (F.take j)) (F.at_ j).1 (F.at_ j).2.1 (F.at_ j).2.2.1 (F.at_ j).2.2.2 := by
  rw [F.take_step j hj, bAll_app]
  rfl
theorem radd1_len (R : List Rn) (k n : Int) (u : Sl) (ps : Fo) : (radd1 R k n u ps).1.length ≤ R.length + (1 + ps.size) := by
  have h := (radd_len (.cons k n u ps .nil) R).1
  rw [radd_cons, radd_nil] at h
  simpa [Fo.size] using h
theorem bOne_len (s : List Rn × List Nat) (k n : Int) (u : Sl) (ps : Fo) : (bOne s k n u ps).1.length ≤ s.1.length + (1 + ps.size) ∧ (bOne s k n u ps).2.length ≤ s.2.length + 1 := by
  unfold bOne
  split
  · exact ⟨radd1_len _ _ _ _ _, by simp⟩
  · omega
theorem bAll_len (F : Fo) : ∀ s, (bAll s F).1.length ≤ s.1.length + F.size ∧ (bAll s F).2.length ≤ s.2.length + F.len := by
  induction F with
  | nil => intro s; simp [bAll, Fo.size, Fo.len]
  | cons k n u ps r _ ih =>
    intro s
    have h1 := bOne_len s k n u ps
    have h2 := ih (bOne s k n u ps)
    simp only [bAll, Fo.size, Fo.len]
    omega
theorem radd1_G (R : List Rn) (k n : Int) (u : Sl) (ps : Fo) (hG : GI (R.map rG)) (hv : Vok (Fo.cons k n u ps .nil)) : (radd1 R k n u ps).1.map rG = (gadd1 (R.map rG) k n ps).1 ∧ (radd1 R k n u ps).2 = (gadd1 (R.map rG) k n ps).2 ∧ GI ((radd1 R k n u ps).1.map rG) := by
  have h := radd_G (Fo.cons k n u ps .nil) R hG hv
  have hok := gadd_ok (Fo.cons k n u ps .nil) (R.map rG) hG hv
  rw [radd_cons, radd_nil, gadd_cons, gadd_nil] at h
  obtain ⟨h1, h2⟩ := h
  dsimp only at h1 h2
  injection h2 with h2 _
  refine ⟨h1, h2, ?_⟩
  rw [h1]
  have h3 := hok.ok
  rw [gadd_cons, gadd_nil] at h3
  exact h3
theorem bOne_GI (s : List Rn × List Nat) (k n : Int) (u : Sl) (ps : Fo) (hG : GI (s.1.map rG)) (hl : LenOk (Fo.cons k n u ps .nil)) : GI ((bOne s k n u ps).1.map rG) := by
  unfold bOne
  split
  · rename_i h
    exact (radd1_G s.1 k n u ps hG (vok_of h hl)).2.2
  · exact hG
structure BoI (w : World) (BT : Nat) (W : World) (g mb : Nat) (vg vm va : Value) (L : List Nd) (M : List Rm) (R : List Rn) (A : List Nat) : Prop where
  graph : GrM w.heap.size W g vg mb L (R.map rG)
  model : RgM (fun b => b ≠ g ∧ b ≠ mb ∧ vg.ownBlock ≠ some b ∧ va.ownBlock ≠ some b) BT W vm M
  eqR : M1 M = R
  row : W.ownsRow w.heap.size 3 1 va A.length (nums A)
  apart : NoP va.ownBlock L
  below : Below w.heap.size w W
theorem BoI.keep {w : World} {BT : Nat} {W W' : World} {g mb : Nat} {vg vm va : Value} {L : List Nd} {M : List Rm} {R : List Rn} {A : List Nat} (h : BoI w BT W g mb vg vm va L M R A) (hT : BT ≤ w.heap.size) (hb : Below W.heap.size W W') : BoI w BT W' g mb vg vm va L M R A :=
  ⟨h.graph.below hb, h.model.below (Nat.le_trans hT h.below.size) hb, h.eqR, own_below h.row hb, h.apart, h.below.trans (hb.mono h.below.size)⟩
theorem BoI.start {w W : World} {BT : Nat} {g mb : Nat} (hG : GrM w.heap.size W g (.slice none 0 0) mb [] []) (hb : Below w.heap.size w W) : BoI w BT W g mb (.slice none 0 0) (.slice none 0 0) (.slice none 0 0) [] [] [] [] :=
  ⟨hG, ⟨⟨⟨rfl, .inl ⟨rfl, _, _, rfl⟩⟩, fun h => absurd h (Nat.lt_irrefl 0)⟩, (fun x hx => by cases hx)⟩, rfl, World.ownsRow_nil _ _ _ _, (fun x hx => by cases hx), hb⟩
/-- The graph has a type more. -/
theorem BoI.added {w : World} {BT : Nat} {W W2 W3 : World} {g mb : Nat} {vg vg' vm va : Value} {L : List Nd} {M : List Rm} {R : List Rn} {A : List Nat} (h : BoI w BT W g mb vg vm va L M R A) (hT : BT ≤ w.heap.size)
    (hc : Chg W W2 g mb vg vg') (hge : w.heap.size ≤ g ∧ w.heap.size ≤ mb) (hb3 : Below W2.heap.size W2 W3) :
    RgM (fun b => b ≠ g ∧ b ≠ mb ∧ vg'.ownBlock ≠ some b ∧ va.ownBlock ≠ some b) BT W3 vm M ∧ W3.ownsRow w.heap.size 3 1 va A.length (nums A) ∧ Below w.heap.size w W3 := by
  have hvg : ∀ b, vg.ownBlock = some b → w.heap.size ≤ b := fun b hb => (h.graph.row.lt b hb).1
  have hbl : Below w.heap.size w W2 := ⟨hc.os.trans h.below.os, hc.tape.trans h.below.tape, hc.output.trans h.below.output, Nat.le_trans h.below.size hc.size, fun b hb => (hc.block b (Nat.lt_of_lt_of_le hb h.below.size) (by omega) (by omega) (fun e => by have := hvg b e; omega)).trans (h.below.block b hb)⟩
  have h2 : RgM (fun b => b ≠ g ∧ b ≠ mb ∧ vg'.ownBlock ≠ some b ∧ va.ownBlock ≠ some b) BT W2 vm M := by
    refine ((h.model.imp fun b hlt hD => (⟨hD, hlt⟩ : (b ≠ g ∧ b ≠ mb ∧ vg.ownBlock ≠ some b ∧ va.ownBlock ≠ some b) ∧ b < W.heap.size)).to ⟨hc.os, hc.tape, hc.output, hc.size, fun b hb => hc.block b (by have := h.below.size; omega) (by omega) (by omega) (fun e => by have := hvg b e; omega)⟩ hc.size fun b hD hlt => hc.block b hlt hD.1.1 hD.1.2.1 hD.1.2.2.1).imp fun b _ hD => ⟨hD.1.1, hD.1.2.1, ?_, hD.1.2.2.2⟩
    rcases hc.at_ with e | ⟨b', e, hb'⟩
    · rw [e]; exact hD.1.2.2.1
    · rw [e]; intro e2; injection e2 with e2; have := hD.2; omega
  have h3 : W2.ownsRow w.heap.size 3 1 va A.length (nums A) := by
    refine ⟨h.row.1, ?_⟩
    rcases h.row.2 with h' | ⟨b, cap, cur, hv, hb, hh, hr⟩
    · exact .inl h'
    · have hmo : ∃ es ck, W.heap[mb]? = some (Obj.map es ck) := by obtain ⟨_, _, _, ⟨es, ck, h, _⟩, _⟩ := h.graph.vars; exact ⟨es, ck, h⟩
      refine .inr ⟨b, cap, cur, hv, hb, (hc.block b (Array.getElem?_eq_some_iff.1 hh).1 (fun e => ?_) (fun e => ?_) (own_ne h.graph.row hh fun cs e => by injection e with _ e; revert e; decide)).trans hh, hr⟩
      · subst e; rw [h.graph.cell] at hh; injection hh with hh; injection hh with _ hh; revert hh; decide
      · subst e; obtain ⟨_, _, h'⟩ := hmo; rw [h'] at hh; cases hh
  exact ⟨h2.below (Nat.le_trans hT hbl.size) hb3, own_below h3 hb3, hbl.trans (hb3.mono hbl.size)⟩
/-- The document's graph, too; the node is put behind the others. -/
theorem BoI.fin {w : World} {BT : Nat} {W W2 W4 : World} {g mb : Nat} {vg vg' vm vm4 va : Value} {L E : List Nd} {M M4 : List Rm} {R R4 : List Rn} {A : List Nat} (h : BoI w BT W g mb vg vm va L M R A) (hT : BT ≤ w.heap.size) (hA : A.length ≤ 1000000)
    (hG2 : GrM w.heap.size W2 g vg' mb (L ++ E) (R4.map rG)) (hE : ∀ x ∈ E, ∀ b, (slv x.2.2.2).ownBlock = some b → W.heap.size ≤ b) (hb4 : Below W2.heap.size W2 W4) (hM4 : RgM (fun b => b ≠ g ∧ b ≠ mb ∧ vg'.ownBlock ≠ some b ∧ va.ownBlock ≠ some b) BT W4 vm4 M4)
    (hR4 : M1 M4 = R4) (hrow : W4.ownsRow w.heap.size 3 1 va A.length (nums A)) (hbl : Below w.heap.size w W4) (i : Nat) :
    ∃ (A6 : Option Addr) (n6 c6 : Nat) (W6 : World), (app_ #[43, 43] 43 #[va, .slice (some ⟨W4.heap.size, 0, none⟩) 1 1]).run Try.prog (W4.alloc (.cells #[.int .i64 (i : Nat)] 3)) = .ok (.slice A6 n6 c6) W6 ∧
      BoI w BT W6 g mb vg' vm4 (.slice A6 n6 c6) (L ++ E) M4 R4 (A ++ [i]) := by
  obtain ⟨v6, W6, hr, ho, hg, hat⟩ := app_part W4 w.heap.size va A hrow (by omega) hbl.size i
  obtain ⟨A6, c6, rfl, -, -⟩ := own_form ho
  refine ⟨A6, _, c6, W6, hr, ?_⟩
  obtain ⟨v6, hv6⟩ : ∃ v6, Value.slice A6 (A ++ [i]).length c6 = v6 := ⟨_, rfl⟩
  rw [hv6] at ho hat ⊢
  have hs6 := hg.size
  simp only [World.size_alloc] at hs6
  have hG4 := hG2.below hb4
  have hk : ∀ b, b < W4.heap.size → va.ownBlock ≠ some b → W6.heap[b]? = W4.heap[b]? := fun b hb h => (hg.block b (by simp; omega) (fun e => h e.symm)).trans (Below.heap_alloc _ _ _ hb)
  have hva : ∀ b, va.ownBlock = some b → w.heap.size ≤ b ∧ b < W.heap.size := fun b e => h.row.lt b e
  have hvc : ∀ {b : Nat} {o : Obj}, W4.heap[b]? = some o → (∀ cs, o ≠ .cells cs 3) → va.ownBlock ≠ some b := fun ho hn => own_ne hrow ho hn
  have hnop : NoP va.ownBlock (L ++ E) := fun x hx b hb e => by
    rcases List.mem_append.1 hx with hx | hx
    · exact h.apart x hx b hb e
    · have := hE x hx b hb
      have := (hva b e).2
      omega
  have hmo : ∃ es ck, W4.heap[mb]? = some (Obj.map es ck) := by obtain ⟨_, _, _, ⟨es, ck, h, _⟩, _⟩ := hG4.vars; exact ⟨es, ck, h⟩
  refine ⟨?_, ?_, hR4, ho, ?_, ?_⟩
  · refine hG4.to2 va.ownBlock hnop (hk g hG4.lt.1 (hvc hG4.cell fun cs e => by injection e with _ e; revert e; decide)) (hk mb hG4.lt.2 (by obtain ⟨es, ck, h'⟩ := hmo; exact hvc h' fun cs e => by cases e)) (fun b hb => hk b (hG4.row.lt b hb).2 ?_) (fun b cs _ hne hb => (hk b (Array.getElem?_eq_some_iff.1 hb).1 hne).trans hb)
    rcases hG4.row.2 with ⟨h', _⟩ | ⟨b', cap, cur, hv, _, hh, _⟩
    · rw [h'] at hb; cases hb
    · rw [hv] at hb
      have : b' = b := by simpa [Value.ownBlock] using hb
      subst this
      exact hvc hh fun cs e => by injection e with _ e; revert e; decide
  · refine ((hM4.imp fun b hlt hD => (⟨hD, hlt⟩ : (b ≠ g ∧ b ≠ mb ∧ vg'.ownBlock ≠ some b ∧ va.ownBlock ≠ some b) ∧ b < W4.heap.size)).to ⟨hg.os, hg.tape, hg.output, by omega, fun b hb => hk b (by have := hbl.size; omega) (fun e => by have := (hva b e).1; omega)⟩ (by omega) fun b hD hlt => hk b hlt hD.1.2.2.2).imp fun b _ hD => ⟨hD.1.1, hD.1.2.1, hD.1.2.2.1, ?_⟩
    rcases hat with e | e
    · rw [e]; exact hD.1.2.2.2
    · rw [e]; intro e2; injection e2 with e2; have := hD.2; omega
  · intro x hx b hb e
    rcases hat with e' | e'
    · exact hnop x hx b hb (by rw [← e']; exact e)
    · rw [e'] at e; injection e with e
      have := (hG4.nodes.lt_own x hx b hb).1
      omega
  · exact ⟨hg.os.trans hbl.os, hg.tape.trans hbl.tape, hg.output.trans hbl.output, by have := hbl.size; omega, fun b hb => (hk b (by have := hbl.size; omega) fun e => by have := (hva b e).1; omega).trans (hbl.block b hb)⟩
end Go.Proofs.Ytbnpmeaaaecciaa
/- Arguments that are lists of pairs of bytes, and lists of bytes, opened. -/
namespace Go.Proofs.Ytbnpmeaaaecciaa.Un
open Go.RowKit Go.ChangeShapes Go.WideShapes Go.ChangeAt Go.Deep

theorem list_of {α : Type} (P : Nat → α → Prop) (n : Nat) (h : ∀ i, i < n → ∃ t, P i t) : ∃ ts : List α, ts.length = n ∧ ∀ i (hi : i < ts.length), P i ts[i] := by
  induction n with
  | zero => exact ⟨[], rfl, by simp⟩
  | succ n ih =>
    obtain ⟨ts, hl, hP⟩ := ih (fun i hi => h i (by omega))
    obtain ⟨t, ht⟩ := h n (by omega)
    refine ⟨ts ++ [t], by simp [hl], fun i hi => ?_⟩
    rcases Nat.lt_or_ge i ts.length with hlt | hge
    · rw [List.getElem_append_left hlt]; exact hP i hlt
    · have : i = ts.length := by simp at hi; omega
      subst this
      have e : (ts ++ [t])[ts.length] = t := by simp
      rw [e, hl]
      exact ht
/-- A slice of pairs of bytes. -/
def RdP (w : World) (v : Value) (l : List (Nat × Nat)) : Prop :=
  (∀ p ∈ l, p.1 < 256 ∧ p.2 < 256) ∧ ((l = [] ∧ ∃ A c, v = .slice A 0 c) ∨ ∃ b off cap, v = .slice (some ⟨b, off, none⟩) l.length cap ∧ l.length ≤ cap ∧ b < w.heap.size ∧
    ∀ i (hi : i < l.length), w.cell? ⟨b, off + i * 2, none⟩ = some (.int .u8 (l[i].1 : Nat)) ∧ w.cell? ⟨b, off + i * 2 + 1, none⟩ = some (.int .u8 (l[i].2 : Nat)))
def RdB (w : World) (v : Value) (l : List Nat) : Prop :=
  (∀ p ∈ l, p < 256) ∧ ((l = [] ∧ ∃ A c, v = .slice A 0 c) ∨ ∃ b off cap, v = .slice (some ⟨b, off, none⟩) l.length cap ∧ l.length ≤ cap ∧ b < w.heap.size ∧
    ∀ i (hi : i < l.length), w.cell? ⟨b, off + i, none⟩ = some (.int .u8 (l[i] : Nat)))
theorem RdP.below {w w' : World} {v : Value} {l : List (Nat × Nat)} (h : RdP w v l) (hb : Below w.heap.size w w') : RdP w' v l := by
  refine ⟨h.1, ?_⟩
  rcases h.2 with h2 | ⟨b, off, cap, hv, hc, hl, hx⟩
  · exact .inl h2
  · exact .inr ⟨b, off, cap, hv, hc, Nat.lt_of_lt_of_le hl hb.size, fun i hi => ⟨(hb.cell (p := ⟨b, _, none⟩) hl).trans (hx i hi).1, (hb.cell (p := ⟨b, _, none⟩) hl).trans (hx i hi).2⟩⟩
theorem RdB.below {w w' : World} {v : Value} {l : List Nat} (h : RdB w v l) (hb : Below w.heap.size w w') : RdB w' v l := by
  refine ⟨h.1, ?_⟩
  rcases h.2 with h2 | ⟨b, off, cap, hv, hc, hl, hx⟩
  · exact .inl h2
  · exact .inr ⟨b, off, cap, hv, hc, Nat.lt_of_lt_of_le hl hb.size, fun i hi => (hb.cell (p := ⟨b, _, none⟩) hl).trans (hx i hi)⟩
theorem RdP.slice {w : World} {v : Value} {l : List (Nat × Nat)} (h : RdP w v l) : ∃ A c, v = .slice A l.length c := by
  rcases h.2 with ⟨rfl, A, c, hv⟩ | ⟨b, off, cap, hv, _⟩
  · exact ⟨A, c, hv⟩
  · exact ⟨_, _, hv⟩
theorem RdB.slice {w : World} {v : Value} {l : List Nat} (h : RdB w v l) : ∃ A c, v = .slice A l.length c := by
  rcases h.2 with ⟨rfl, A, c, hv⟩ | ⟨b, off, cap, hv, _⟩
  · exact ⟨A, c, hv⟩
  · exact ⟨_, _, hv⟩
theorem RdP.at_ {w : World} {A : Option Addr} {n c : Nat} {l : List (Nat × Nat)} (h : RdP w (.slice A n c) l) {i : Nat} (hi : i < l.length) : ∃ b off, A = some ⟨b, off, none⟩ ∧ b < w.heap.size ∧ w.cell? ⟨b, off + i * 2, none⟩ = some (.int .u8 (l[i].1 : Nat)) ∧ w.cell? ⟨b, off + i * 2 + 1, none⟩ = some (.int .u8 (l[i].2 : Nat)) ∧ l[i].1 < 256 ∧ l[i].2 < 256 := by
  rcases h.2 with ⟨rfl, _⟩ | ⟨b, off, cap, hv, hc, hl, hx⟩
  · simp at hi
  · injection hv with h1 _ _
    exact ⟨b, off, h1, hl, (hx i hi).1, (hx i hi).2, (h.1 _ (List.getElem_mem hi)).1, (h.1 _ (List.getElem_mem hi)).2⟩
theorem RdB.at_ {w : World} {A : Option Addr} {n c : Nat} {l : List Nat} (h : RdB w (.slice A n c) l) {i : Nat} (hi : i < l.length) : ∃ b off, A = some ⟨b, off, none⟩ ∧ b < w.heap.size ∧ w.cell? ⟨b, off + i, none⟩ = some (.int .u8 (l[i] : Nat)) ∧ l[i] < 256 := by
  rcases h.2 with ⟨rfl, _⟩ | ⟨b, off, cap, hv, hc, hl, hx⟩
  · simp at hi
  · injection hv with h1 _ _
    exact ⟨b, off, h1, hl, hx i hi, h.1 _ (List.getElem_mem hi)⟩
def ArgP (w : World) (v : Value) : Prop := ∃ l, RdP w v l
def ArgB (w : World) (v : Value) : Prop := ∃ l, RdB w v l
theorem u8_wf {n : Int} (h : (Lit.int .u8 n).wf = true) : 0 ≤ n ∧ n < 256 := by
  have e1 : IntKind.u8.min = 0 := by decide
  have e2 : IntKind.u8.max = 255 := by decide
  simp only [Lit.wf, Bool.and_eq_true, decide_eq_true_eq] at h
  omega
end Go.Proofs.Ytbnpmeaaaecciaa.Un
/- union: Set: the ring is gone through, and put in order. -/
namespace Go.Proofs.Ytbnpmeaaaecciaa.Un
open Go.RowKit
attribute [local go_sem] Oper.semAt_some
attribute [local go_sem ↓] builtin_app

def rowL (l : List Nat) : List Value := l.map fun (k : Nat) => Value.int .i64 (k : Int)
theorem rowL_snoc (l : List Nat) (k : Nat) : rowL (l ++ [k]) = rowL l ++ [.int .i64 (k : Int)] := by simp [rowL]
theorem rowL_len (l : List Nat) : (rowL l).length = l.length := by simp [rowL]
theorem row_zero {w : World} {base : Nat} {e : TypeId} {size : Nat} {v : Value} {n : Nat} {xs : List Value} (h : w.ownsRow base e size v n xs) : w.ownsRow 0 e size v n xs := by
  refine ⟨h.1, ?_⟩
  rcases h.2 with h2 | ⟨g, cap, cur, hv, _, r⟩
  · exact .inl h2
  · exact .inr ⟨g, cap, cur, hv, Nat.zero_le _, r⟩
/-- A boxed row, behind block B. -/
structure BoxR (B : Nat) (sb : Nat) (v : Value) (l : List Nat) (w : World) : Prop where
  box : w.heap[sb]? = some (Obj.cells #[v] 43)
  row : w.ownsRow B 3 1 v l.length (rowL l)
  sbB : B ≤ sb
theorem BoxR.keep {B sb : Nat} {v : Value} {l : List Nat} {w w' : World} {T : Nat → Prop} (h : BoxR B sb v l w) (he : Else T w w') (hT : ∀ k, T k → k < B) : BoxR B sb v l w' := by
  refine ⟨(he.block sb (Array.getElem?_eq_some_iff.1 h.box).1 (fun hx => by have := hT sb hx; have := h.sbB; omega)).trans h.box, ⟨h.row.1, ?_⟩, h.sbB⟩
  rcases h.row.2 with h2 | ⟨g, cap, cur, hv, hg, hh, r⟩
  · exact .inl h2
  · exact .inr ⟨g, cap, cur, hv, hg, (he.block g (Array.getElem?_eq_some_iff.1 hh).1 (fun hx => by have := hT g hx; omega)).trans hh, r⟩
/-- What each owes: the ring's elements, one behind the other. -/
def EachPost (S : Nat → Prop) (w : World) (b n B sb : Nat) (A Z X : Value) (par sz nx : Nat → Nat) (sets steps : Int) (l0 L : List Nat) (e : Ending) (w' : World) : Prop :=
  e = .returned (.tuple #[]) ∧ FM S w' b n A Z X par sz nx sets (steps + (L.length : Nat)) ∧ (∃ v', BoxR B sb v' (l0 ++ L) w') ∧ Else (fun k => S k ∨ B ≤ k) w w'
def stepsAt (b : Nat) (w : World) : Int := match w.cell? ⟨b, 4, none⟩ with
  | some (.int _ n) => n
  | _ => 0
def EachRel (S : Nat → Prop) (w : World) (b n B sb : Nat) (A Z X : Value) (par sz nx : Nat → Nat) (sets steps : Int) (l0 L : List Nat) (i : Nat) (s : Value) (wr : World) : Prop :=
  ∃ (l1 l2 : List Nat) (j : Nat) (v' : Value), s = .int .i64 (j : Int) ∧ L = l1 ++ j :: l2 ∧ Pth nx j (j :: l2) i ∧ FM S wr b n A Z X par sz nx sets (steps + (l1.length : Nat)) ∧ BoxR B sb v' (l0 ++ l1) wr ∧ Else (fun k => S k ∨ B ≤ k) w wr
end Go.Proofs.Ytbnpmeaaaecciaa.Un
