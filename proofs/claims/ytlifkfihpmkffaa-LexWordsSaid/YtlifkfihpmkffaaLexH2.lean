/- A round of the answer's Words at a word or a name. -/
import Derived.Test.YtlifkfihpmkffaaLexH0
namespace Go.Proofs.Ytlifkfihpmkffaa
open Go.RowKit
set_option linter.unusedVariables false

set_option maxHeartbeats 8000000 in
set_option maxRecDepth 1000000 in
theorem rw_small (s : ByteArray) (w wr : World) (K : Act → World → Prop) (k f : Nat) (acc : List (Int × Nat × Nat)) (u2 u3 u4 u5 u7 u8 u9 u10 u11 u12 u13 u14 u15 u16 u17 u18 u19 u20 u21 u22 u23 u24 u25 u26 u27 u28 u29 u30 u31 u32 u33 u34 u35 u36 u37 u38 u39 u40 u41 u42 u43 u44 u45 u46 u47 u48 u49 u50 u51 u52 u53 u54 u55 u56 u57 u58 u59 u60 u61 u62 u63 u64 u65 u66 u67 u68 u69 u70 u71 u72 u73 u74 u75 u76 u77 u78 u79 u80 u81 u82 u83 u84 u85 u86 u87 u88 u89 u90 u91 u92 u93 u94 u95 u96 u97 u98 u99 u100 u101 u102 u103 u104 u105 u106 u107 u108 u109 u110 u111 u112 u113 u114 u115 u116 u117 u118 u119 u120 u121 u122 u123 u124 u125 u126 u127 u128 u129 u130 u131 u132 u133 u134 u135 u136 u137 u138 u139 u140 u141 u142 u143 u144 u145 u146 u147 u148 u149 u150 u151 u152 u153 u154 u155 u156 u157 u158 u159 u160 u161 u162 u163 u164 u165 u166 u167 u168 u169 u170 u171 : Value) (hs : s.size ≤ 1000000) (hk : k ≤ s.size) (hacc : acc.length ≤ k) (hf : s.size < f + k)
    (hown : wr.ownsRow w.heap.size 53 4 u5 acc.length (toksCells s acc)) (hbw : Below w.heap.size w wr) (He : Hid (wordsE (bs s) = wordsA (bs s) f (blankEnd false (bs s) k) acc)) (hlt : k < s.size) (hbl' : blankB (s[k].toNat : Int) = false) (h35 : ¬ (s[k].toNat : Int) = 35) (hsm : smallB (s[k].toNat : Int) = true) :
    Code.wp Try.prog rwBody (Exit.then (fun a' w' => RWI s w a' w' ∧ rwMu s a' < rwMu s ⟨#[.string s, undef, u2, u3, u4, u5, .int .i64 k, u7, u8, u9, u10, u11, u12, u13, u14, u15, u16, u17, u18, u19, u20, u21, u22, u23, u24, u25, u26, u27, u28, u29, u30, u31, u32, u33, u34, u35, u36, u37, u38, u39, u40, u41, u42, u43, u44, u45, u46, u47, u48, u49, u50, u51, u52, u53, u54, u55, u56, u57, u58, u59, u60, u61, u62, u63, u64, u65, u66, u67, u68, u69, u70, u71, u72, u73, u74, u75, u76, u77, u78, u79, u80, u81, u82, u83, u84, u85, u86, u87, u88, u89, u90, u91, u92, u93, u94, u95, u96, u97, u98, u99, u100, u101, u102, u103, u104, u105, u106, u107, u108, u109, u110, u111, u112, u113, u114, u115, u116, u117, u118, u119, u120, u121, u122, u123, u124, u125, u126, u127, u128, u129, u130, u131, u132, u133, u134, u135, u136, u137, u138, u139, u140, u141, u142, u143, u144, u145, u146, u147, u148, u149, u150, u151, u152, u153, u154, u155, u156, u157, u158, u159, u160, u161, u162, u163, u164, u165, u166, u167, u168, u169, u170, u171, undef, undef, undef, undef, undef, undef, undef, undef, undef], []⟩) (Exit.inBlock 0 (Exit.then K (bodyPost Try.prog Try.f30 (WordsPost s w))))) ⟨#[.string s, undef, u2, u3, u4, u5, .int .i64 k, u7, u8, u9, u10, u11, u12, u13, u14, u15, u16, u17, u18, u19, u20, u21, u22, u23, u24, u25, u26, u27, u28, u29, u30, u31, u32, u33, u34, u35, u36, u37, u38, u39, u40, u41, u42, u43, u44, u45, u46, u47, u48, u49, u50, u51, u52, u53, u54, u55, u56, u57, u58, u59, u60, u61, u62, u63, u64, u65, u66, u67, u68, u69, u70, u71, u72, u73, u74, u75, u76, u77, u78, u79, u80, u81, u82, u83, u84, u85, u86, u87, u88, u89, u90, u91, u92, u93, u94, u95, u96, u97, u98, u99, u100, u101, u102, u103, u104, u105, u106, u107, u108, u109, u110, u111, u112, u113, u114, u115, u116, u117, u118, u119, u120, u121, u122, u123, u124, u125, u126, u127, u128, u129, u130, u131, u132, u133, u134, u135, u136, u137, u138, u139, u140, u141, u142, u143, u144, u145, u146, u147, u148, u149, u150, u151, u152, u153, u154, u155, u156, u157, u158, u159, u160, u161, u162, u163, u164, u165, u166, u167, u168, u169, u170, u171, undef, undef, undef, undef, undef, undef, undef, undef, undef], []⟩ wr := by
  obtain ⟨i0, hi, hz0, hz1, hz2⟩ := info_parts tokInfo
  have hg := bs_get s k hlt
  have hll : k < (bs s).length := by rw [bs_length]; exact hlt
  conv => arg 2; whnf
  have n1 : ((s[k].toNat : Int) == 32) = false := by unfold blankB at hbl'; simp at hbl'; simp; omega
  have n2 : ((s[k].toNat : Int) == 9) = false := by unfold blankB at hbl'; simp at hbl'; simp; omega
  have n3 : ((s[k].toNat : Int) == 10) = false := by unfold blankB at hbl'; simp at hbl'; simp; omega
  have n4 : ((s[k].toNat : Int) == 13) = false := by unfold blankB at hbl'; simp at hbl'; simp; omega
  have HB : Hid (blankEnd false (bs s) k = k) := blankEnd_token hll (by rw [hg]; exact hbl') (by rw [hg]; exact h35)
  have e35 : ((s[k].toNat : Int) == 35) = false := by simpa using h35
  have hat := at_bs s k hlt
  clear h35 hbl' hg
  have HTt : Hid (tokenT (bs s) k = wordT (bs s) k) := by
    show tokenT (bs s) k = wordT (bs s) k
    unfold tokenT; rw [if_pos (by rw [hat]; exact hsm)]
  have HE : Hid (endAt innerB (bs s) k = endAt innerB (bs s) (k + 1)) := endAt_go hll (by rw [← at_get _ _ hll, hat]; simp [innerB, hsm])
  clear hat hll
  go_wp2_with (go_at_call 51; refine (rLetter_any _ _).mono ?_; rintro e w' ⟨rfl, rfl⟩)
  go_loop [8] (fun t => ∃ j : Nat, k < j ∧ j ≤ s.size ∧ t = .int .i64 j ∧ endAt innerB (bs s) k = endAt innerB (bs s) j) (fun t => s.size - (intOf t).toNat)
  case atStart => exact ⟨k + 1, by omega, by omega, by go_num, HE.out⟩
  case round =>
    obtain ⟨j, hkj, hjs, rfl, hej⟩ := hrel
    have Hej := Lib.hid hej
    clear hej
    by_cases hin : ∃ h : j < s.size, innerB (s[j].toNat : Int) = true
    · obtain ⟨hj, hp⟩ := hin
      have HJ : Hid (endAt innerB (bs s) j = endAt innerB (bs s) (j + 1)) := endAt_go (by rw [bs_length]; exact hj) (by rw [bs_get s j hj]; exact hp)
      go_wp2_with (go_at_call 52; refine (rInner_any _ _).mono ?_; rintro e w' ⟨rfl, rfl⟩)
      go_round
      case rel => exact ⟨j + 1, by omega, by omega, by go_num, Hej.out.trans HJ.out⟩
      case measure => simp [intOf]; omega
    · have HJ : Hid (endAt innerB (bs s) k = j) := by
        show endAt innerB (bs s) k = j
        rw [Hej.out]
        rcases Nat.lt_or_ge j s.size with hj | hj
        · have : innerB (s[j].toNat : Int) = false := by
            rcases h : innerB (s[j].toNat : Int) with _ | _
            · rfl
            · exact absurd ⟨hj, h⟩ hin
          exact endAt_stop (by rw [bs_length]; exact hj) (by rw [bs_get s j hj]; exact this)
        · exact endAt_end (by rw [bs_length]; exact hj)
      clear Hej HE
      have hw : wordT (bs s) k = (if kwB (bs (s.extract k j)) = true then (3, j, 0) else if 20 < j - k then (0, 0, 2) else (1, j, 0)) := by
        rw [bs_extract]
        unfold wordT; rw [HJ.out]
      have HW := Lib.hid hw
      clear hw
      have hkk : (∃ h : j < s.size, innerB (s[j].toNat : Int) = false) ∨ ¬ j < s.size := by
        rcases Nat.lt_or_ge j s.size with h | h
        · refine .inl ⟨h, ?_⟩
          rcases h' : innerB (s[j].toNat : Int) with _ | _
          · rfl
          · exact absurd ⟨h, h'⟩ hin
        · exact .inr (by omega)
      clear hin
      rcases hkk with ⟨hj, hf0⟩ | hf0
      all_goals
        go_wp2_with (go_at_call 52; refine (rInner_any _ _).mono ?_; rintro e w' ⟨rfl, rfl⟩)
        refine (rKeyword_any _ _).mono ?_
        rintro e w2 ⟨rfl, hb2⟩
        have hbw2 := hbw.trans (hb2.mono hbw.size)
        have hown2 := own_below hown hb2 (Nat.le_refl _)
        have hsz := hbw2.size
        clear hown hb2 hbw
        by_cases hkw : kwB (bs (s.extract k j)) = true
        · have HT := HTt.out.trans (HW.out.trans (if_pos hkw))
          have HT' := Lib.hid HT
          clear HT HW HTt
          go_wp2_with (at_builtin; refine wpList_append_own _ rfl (.tmp 159) (.tmp 169) 44 rfl w.heap.size 53 i0 _ 4 40 Try.underlying44 hi hz0 hz1 hz2 rfl (by decide) _ acc.length (toksCells s acc) rfl (hown2.alloc _) ⟨w2.heap.size, 0, none⟩ 1 1 [_, _, _, _] rfl rfl (cells_new w2 _ _) (one4 _ _ _ _) (by unfold maxLen; omega) (by omega) (by simp; omega) ?_; intro v1 w1 hown1 hg1 _)
          have hb3 : Below w.heap.size w w1 := (hbw2.alloc hsz _).grown hg1 (by simp; omega) (fun b hb => (hown2.lt b hb).1)
          go_wp2_with fail
          go_roundw
          case rel =>
            unfold RWI
            repeat apply Exists.intro
            exact ⟨rw_step hlt hacc hf He HB HT'.out rfl hown1 hb3, rfl⟩
          case measure => simp [rwMu, intOf]; omega
        · have hkw' : kwB (bs (s.extract k j)) = false := by simpa using hkw
          have HT1 := HTt.out.trans (HW.out.trans (if_neg hkw))
          clear hkw
          by_cases h20 : 20 < j - k
          · have HT := HT1.trans (if_pos h20)
            have HT' := Lib.hid HT
            have h20' : (20 : Int) < (j : Int) - (k : Int) := by omega
            clear HT HT1 HW HTt
            go_wp2_with fail
            go_ret3
            exact rw_bad hlt hf He HB HT'.out (by decide) rfl rfl hbw2
          · have HT := HT1.trans (if_neg h20)
            have HT' := Lib.hid HT
            have h20' : ¬ (20 : Int) < (j : Int) - (k : Int) := by omega
            clear HT HT1 HW HTt
            go_wp2_with (at_builtin; refine wpList_append_own _ rfl (.tmp 159) (.tmp 169) 44 rfl w.heap.size 53 i0 _ 4 40 Try.underlying44 hi hz0 hz1 hz2 rfl (by decide) _ acc.length (toksCells s acc) rfl (hown2.alloc _) ⟨w2.heap.size, 0, none⟩ 1 1 [_, _, _, _] rfl rfl (cells_new w2 _ _) (one4 _ _ _ _) (by unfold maxLen; omega) (by omega) (by simp; omega) ?_; intro v1 w1 hown1 hg1 _)
            have hb3 : Below w.heap.size w w1 := (hbw2.alloc hsz _).grown hg1 (by simp; omega) (fun b hb => (hown2.lt b hb).1)
            go_wp2_with fail
            go_roundw
            case rel =>
              unfold RWI
              repeat apply Exists.intro
              exact ⟨rw_step hlt hacc hf He HB HT'.out rfl hown1 hb3, rfl⟩
            case measure => simp [rwMu, intOf]; omega
end Go.Proofs.Ytlifkfihpmkffaa
