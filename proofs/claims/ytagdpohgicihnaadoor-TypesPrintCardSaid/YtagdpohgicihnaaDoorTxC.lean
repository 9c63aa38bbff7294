/- The answer's Text: the walk. -/
import Derived.Test.YtagdpohgicihnaaDoorTxB
namespace Go.Proofs.YtagdpohgicihnaaDoor
open Go.RowKit Go.Shelf

theorem alone_len (k n : Int) (m : Nat) (h : alone k n m = true) : (k = 1 ∧ m = 0) ∨ (k = 2 ∧ m = 0) ∨ (k = 3 ∧ m = 0) ∨ (k = 4 ∧ m = 2) ∨ (k = 5 ∧ 2 ≤ m ∧ m ≤ 8) := by
  unfold alone at h
  split at h
  · simp at h; omega
  split at h
  · simp at h; omega
  split at h
  · simp at h; omega
  split at h
  · simp at h; omega
  · cases h
theorem sz_of (l : List UInt8) : (⟨l.toArray⟩ : ByteArray).size = l.length := by simp [ByteArray.size]
set_option maxHeartbeats 4000000 in
set_option maxRecDepth 100000 in
theorem rtext_any (m : Nat) : ∀ (f : Fo) (k n : Int) (v : Value) (w : World), f.size < m → f.size ≤ 100000 → alone k n f.len = true → f.ok = true → TyV w.heap.size w f v →
    Calls Tryd.prog 27 #[tyVal k n v] w fun e w' => e = .returned (.string ⟨(oneT k n f.txts).toArray⟩) ∧ Below w.heap.size w w' := by
  induction m with
  | zero => intro f k n v w h; omega
  | succ m ih =>
    intro f k n v w hm hs ha ho h
    obtain ⟨A, c, rfl⟩ := h.slice
    have H := Lib.hid h
    have IH := Lib.hid ih
    have hll := f.len_le_size
    clear h ih
    have hb0 := (Below.refl w.heap.size w).alloc (Nat.le_refl _) (.cells #[.int .i64 k, .int .i64 n, .slice A f.len c] 24)
    have hal := alone_len k n f.len ha
    have HO := Lib.hid ho
    clear ha ho
    unfold tyVal
    rcases hal with ⟨rfl, h0⟩ | ⟨rfl, h0⟩ | ⟨rfl, h0⟩ | h45
    · have HB0 := Lib.hid hb0
      have hN := Lib.hid (rname_any n)
      clear h0 hb0
      go_enter Tryd.func27, Tryd.ntmps27
      go_wp2_with (go_at_call 46; refine (hN.out _).mono ?_; rintro e w' ⟨rfl, hb⟩)
      go_ret
      exact ⟨by simp [oneT], HB0.out.trans (hb.mono HB0.out.size)⟩
    · have HB0 := Lib.hid hb0
      clear h0 hb0
      go_enter Tryd.func27, Tryd.ntmps27
      go_wp2
      go_ret
      exact ⟨by simp [oneT], HB0.out⟩
    · have HB0 := Lib.hid hb0
      clear h0 hb0
      go_enter Tryd.func27, Tryd.ntmps27
      go_wp2
      go_ret
      exact ⟨by simp [oneT], HB0.out⟩
    · clear hb0
      obtain ⟨kk, hkk⟩ : ∃ kk, kk = k := ⟨_, rfl⟩
      have hfin : (kk = 4 → oneT k n f.txts = joinK kk true f.txts) ∧ (kk = 5 → oneT k n f.txts = 40 :: (joinK kk true f.txts ++ [41])) := by
        refine ⟨fun h => ?_, fun h => ?_⟩
        · rw [← hkk, h]; exact oneT4 n _ (by rw [Fo.txts_length]; omega)
        · rw [← hkk, h]; exact oneT5 n _
      have hjl : (joinK kk true f.txts).length ≤ 10000000 := by
        have h1 := joinK_len kk f.txts true
        have h2 := six_five f.txts
        have h3 := txts_len f
        omega
      obtain ⟨R, hR⟩ : ∃ R, oneT k n f.txts = R := ⟨_, rfl⟩
      rw [hR] at hfin ⊢
      have HF := Lib.hid hfin
      have HJL := Lib.hid hjl
      clear hR hfin hjl
      have hk45 : k = 4 ∨ k = 5 := by omega
      clear h45
      rcases hk45 with rfl | rfl
      all_goals
        have HKK := Lib.hid hkk
        clear hkk
        go_enter Tryd.func27, Tryd.ntmps27
        go_wp2_with fail
        go_loopw [4, 5] (fun t4 t5 wr => ∃ j : Nat, j ≤ f.len ∧ t5 = .int .i64 j ∧ t4 = .string ⟨(joinK kk true (f.take j).txts).toArray⟩ ∧ Below (w.heap.size + 1) (w.alloc (.cells #[.int .i64 _, .int .i64 n, .slice A f.len c] 24)) wr) (fun _ t _ => f.len - (intOf t).toNat)
        case atStart => exact ⟨0, Nat.zero_le _, rfl, by rw [Fo.take_zero]; rfl, Below.refl _ _⟩
        case round =>
          obtain ⟨j, hj, rfl, rfl, hb⟩ := hrel
          have e0 : wr.cell? ⟨w.heap.size, 0, none⟩ = some (.int .i64 kk) := (hb.cell (p := ⟨w.heap.size, 0, none⟩) (by simp)).trans (by rw [HKK.out]; go_simp)
          rw [HKK.out] at e0
          have e2 : wr.cell? ⟨w.heap.size, 2, none⟩ = some (.slice A f.len c) := (hb.cell (p := ⟨w.heap.size, 2, none⟩) (by simp)).trans (by go_simp)
          have HB : Hid (Below w.heap.size w wr) := Lib.hid (((Below.refl _ _).alloc (Nat.le_refl _) _).trans (hb.mono (by omega)))
          have hz := hb.size
          simp only [World.size_alloc] at hz
          have hSz : (joinK kk true (f.take j).txts).length ≤ 10000000 := by
            have h1 := joinK_len kk (f.take j).txts true
            have h2 := six_five (f.take j).txts
            have h3 := txts_len (f.take j)
            have h4 := f.size_take_le j
            omega
          obtain ⟨S, hS⟩ : ∃ S : ByteArray, S = ⟨(joinK kk true (f.take j).txts).toArray⟩ := ⟨_, rfl⟩
          have hSs : S.size ≤ 10000000 := by rw [hS, sz_of]; exact hSz
          rw [← hS]
          have HS := Lib.hid hS
          have hbk := Lib.hid hb
          clear hS hSz hb
          by_cases hjl : j < f.len
          · obtain ⟨b, off, cap, hv, _, _, hlt, hC⟩ := H.out.form (by omega)
            injection hv with hA _ hcc
            subst hA; subst hcc
            obtain ⟨d0, d1, d2, hch⟩ := tyC_at hC j hjl
            have c0 := (HB.out.cell (p := ⟨b, off + j * 3, none⟩) hlt).trans d0
            have c1 := (HB.out.cell (p := ⟨b, off + j * 3 + 1, none⟩) hlt).trans d1
            have c2 := (HB.out.cell (p := ⟨b, off + j * 3 + 2, none⟩) hlt).trans d2
            have hch' : TyV wr.heap.size wr (f.at_ j).2.2.2 (slv (f.at_ j).2.2.1) := (hch.keep HB.out.size fun b off hb' => HB.out.cell (p := ⟨b, off, none⟩) hb')
            have hsz := f.at_size j hjl
            obtain ⟨ha1, ho1⟩ := f.ok_at HO.out j hjl
            have htk := f.txts_take j hjl
            have hlj : (f.take j).txts.length = j := by rw [Fo.txts_length, len_take f j (by omega)]
            have hPs : (oneT (f.at_ j).1 (f.at_ j).2.1 (f.at_ j).2.2.2.txts).length ≤ 10000000 := by
              have h3 := txts_len (f.take (j + 1))
              have h4 := f.size_take_le (j + 1)
              rw [htk] at h3
              simp at h3
              omega
            clear d0 d1 d2 hC hch
            have hrec := IH.out (f.at_ j).2.2.2 (f.at_ j).1 (f.at_ j).2.1 (slv (f.at_ j).2.2.1) wr (by omega) (by omega) ha1 ho1 hch'
            unfold tyVal at hrec
            generalize f.at_ j = p at *
            obtain ⟨pk, pn, ⟨p1, p2, p3⟩, pf⟩ := p
            dsimp only [slv] at c0 c1 c2 hrec hPs htk
            obtain ⟨P, hP⟩ : ∃ P : ByteArray, P = ⟨(oneT pk pn pf.txts).toArray⟩ := ⟨_, rfl⟩
            have hPz : P.size ≤ 10000000 := by rw [hP, sz_of]; exact hPs
            rw [← hP] at hrec
            have HP := Lib.hid hP
            have HTK := Lib.hid htk
            have HLJ := Lib.hid hlj
            have HREC := Lib.hid hrec
            clear hP hPs htk hlj hrec hch' ha1 ho1
            have hwb : w.heap.size < wr.heap.size := by omega
            have hfb : b < wr.heap.size := Nat.lt_of_lt_of_le hlt HB.out.size
            rcases Nat.eq_zero_or_pos j with hj0 | hj0
            · have g1 : ((j : Int) == 0) = true := by simp [hj0]
              have g2 : decide ((0 : Int) < (j : Int)) = false := decide_eq_false (by omega)
              have g3 : ¬ 0 < j := by omega
              have HJ := Lib.hid hj0
              clear hj0
              by_cases h4 : pk = 4
              · subst h4
                go_wp2_with fail
                refine HREC.out.mono ?_
                rintro e w2 ⟨rfl, hb3⟩
                have y0 := (hb3.cell (p := ⟨w.heap.size, 0, none⟩) hwb).trans e0
                have y2 := (hb3.cell (p := ⟨w.heap.size, 2, none⟩) hwb).trans e2
                have z0 := (hb3.cell (p := ⟨b, off + j * 3, none⟩) hfb).trans c0
                have HB3 := Lib.hid hb3
                clear hb3
                go_wp2_with fail
                go_roundw
                case rel => exact ⟨j + 1, by omega, by go_num, congrArg Value.string (by rw [HTK.out]; exact leaf_b kk S P _ _ HS.out HP.out (HLJ.out.trans HJ.out) rfl), hbk.out.trans (HB3.out.mono hz)⟩
                case measure => simp [intOf]; omega
              · have f4 : (pk == 4) = false := beq_eq_false_iff_ne.2 h4
                go_wp2_with fail
                refine HREC.out.mono ?_
                rintro e w2 ⟨rfl, hb3⟩
                have y0 := (hb3.cell (p := ⟨w.heap.size, 0, none⟩) hwb).trans e0
                have y2 := (hb3.cell (p := ⟨w.heap.size, 2, none⟩) hwb).trans e2
                have z0 := (hb3.cell (p := ⟨b, off + j * 3, none⟩) hfb).trans c0
                have HB3 := Lib.hid hb3
                clear hb3
                go_wp2_with fail
                go_roundw
                case rel => exact ⟨j + 1, by omega, by go_num, congrArg Value.string (by rw [HTK.out]; exact leaf_a kk S P _ _ HS.out HP.out (HLJ.out.trans HJ.out) h4), hbk.out.trans (HB3.out.mono hz)⟩
                case measure => simp [intOf]; omega
            · have g1 : ((j : Int) == 0) = false := beq_eq_false_iff_ne.2 (by omega)
              have g2 : decide ((0 : Int) < (j : Int)) = true := decide_eq_true (by omega)
              have hne : (f.take j).txts.length ≠ 0 := by rw [HLJ.out]; omega
              by_cases h4 : pk = 4
              · subst h4
                go_wp2_with fail
                refine HREC.out.mono ?_
                rintro e w2 ⟨rfl, hb3⟩
                have y0 := (hb3.cell (p := ⟨w.heap.size, 0, none⟩) hwb).trans e0
                have y2 := (hb3.cell (p := ⟨w.heap.size, 2, none⟩) hwb).trans e2
                have z0 := (hb3.cell (p := ⟨b, off + j * 3, none⟩) hfb).trans c0
                have HB3 := Lib.hid hb3
                clear hb3
                go_wp2_with fail
                go_roundw
                case rel => exact ⟨j + 1, by omega, by go_num, congrArg Value.string (by rw [HTK.out]; first | exact leaf_c kk S P _ _ _ HS.out HP.out (by rw [HKK.out]; rfl) hne (Or.inr (by rw [HKK.out]; decide)) | (have hS5 := HS.out; rw [HKK.out] at hS5 ⊢; exact leaf_d S P _ _ _ hS5 HP.out rfl hne rfl)), hbk.out.trans (HB3.out.mono hz)⟩
                case measure => simp [intOf]; omega
              · have f4 : (pk == 4) = false := beq_eq_false_iff_ne.2 h4
                go_wp2_with fail
                refine HREC.out.mono ?_
                rintro e w2 ⟨rfl, hb3⟩
                have y0 := (hb3.cell (p := ⟨w.heap.size, 0, none⟩) hwb).trans e0
                have y2 := (hb3.cell (p := ⟨w.heap.size, 2, none⟩) hwb).trans e2
                have z0 := (hb3.cell (p := ⟨b, off + j * 3, none⟩) hfb).trans c0
                have HB3 := Lib.hid hb3
                clear hb3
                go_wp2_with fail
                go_roundw
                case rel => exact ⟨j + 1, by omega, by go_num, congrArg Value.string (by rw [HTK.out]; exact leaf_c kk S P _ _ _ HS.out HP.out (by rw [HKK.out]; rfl) hne (Or.inl h4)), hbk.out.trans (HB3.out.mono hz)⟩
                case measure => simp [intOf]; omega
          · obtain rfl : j = f.len := by omega
            have HT : Hid (f.take f.len = f) := Lib.hid f.take_len
            go_wp2_with fail
            go_ret
            refine ⟨?_, HB.out⟩
            have hS2 := HS.out
            rw [HT.out] at hS2
            first
              | (rw [HF.out.1 HKK.out]; exact congrArg (fun s => Ending.returned (.string s)) hS2)
              | (rw [HF.out.2 HKK.out]; exact congrArg (fun s => Ending.returned (.string s)) ((bcat _ [41] _ _ (bcat [40] _ _ S rfl hS2) rfl).trans (by simp)))
end Go.Proofs.YtagdpohgicihnaaDoor
