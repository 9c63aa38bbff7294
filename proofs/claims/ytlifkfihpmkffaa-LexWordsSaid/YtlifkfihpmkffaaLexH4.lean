/- A round of the answer's Words at a sign, and at any other byte. -/
import Derived.Test.YtlifkfihpmkffaaLexH0
namespace Go.Proofs.Ytlifkfihpmkffaa
open Go.RowKit
set_option linter.unusedVariables false

set_option maxHeartbeats 8000000 in
set_option maxRecDepth 1000000 in
theorem rw_sign (s : ByteArray) (w wr : World) (K : Act → World → Prop) (k f : Nat) (acc : List (Int × Nat × Nat)) (u2 u3 u4 u5 u7 u8 u9 u10 u11 u12 u13 u14 u15 u16 u17 u18 u19 u20 u21 u22 u23 u24 u25 u26 u27 u28 u29 u30 u31 u32 u33 u34 u35 u36 u37 u38 u39 u40 u41 u42 u43 u44 u45 u46 u47 u48 u49 u50 u51 u52 u53 u54 u55 u56 u57 u58 u59 u60 u61 u62 u63 u64 u65 u66 u67 u68 u69 u70 u71 u72 u73 u74 u75 u76 u77 u78 u79 u80 u81 u82 u83 u84 u85 u86 u87 u88 u89 u90 u91 u92 u93 u94 u95 u96 u97 u98 u99 u100 u101 u102 u103 u104 u105 u106 u107 u108 u109 u110 u111 u112 u113 u114 u115 u116 u117 u118 u119 u120 u121 u122 u123 u124 u125 u126 u127 u128 u129 u130 u131 u132 u133 u134 u135 u136 u137 u138 u139 u140 u141 u142 u143 u144 u145 u146 u147 u148 u149 u150 u151 u152 u153 u154 u155 u156 u157 u158 u159 u160 u161 u162 u163 u164 u165 u166 u167 u168 u169 u170 u171 : Value) (hs : s.size ≤ 1000000) (hk : k ≤ s.size) (hacc : acc.length ≤ k) (hf : s.size < f + k)
    (hown : wr.ownsRow w.heap.size 53 4 u5 acc.length (toksCells s acc)) (hbw : Below w.heap.size w wr) (He : Hid (wordsE (bs s) = wordsA (bs s) f (blankEnd false (bs s) k) acc)) (hlt : k < s.size) (hbl' : blankB (s[k].toNat : Int) = false) (h35 : ¬ (s[k].toNat : Int) = 35) (hsm : ¬ smallB (s[k].toNat : Int) = true) (hdg : ¬ digitB (s[k].toNat : Int) = true) :
    Code.wp Try.prog rwBody (Exit.then (fun a' w' => RWI s w a' w' ∧ rwMu s a' < rwMu s ⟨#[.string s, undef, u2, u3, u4, u5, .int .i64 k, u7, u8, u9, u10, u11, u12, u13, u14, u15, u16, u17, u18, u19, u20, u21, u22, u23, u24, u25, u26, u27, u28, u29, u30, u31, u32, u33, u34, u35, u36, u37, u38, u39, u40, u41, u42, u43, u44, u45, u46, u47, u48, u49, u50, u51, u52, u53, u54, u55, u56, u57, u58, u59, u60, u61, u62, u63, u64, u65, u66, u67, u68, u69, u70, u71, u72, u73, u74, u75, u76, u77, u78, u79, u80, u81, u82, u83, u84, u85, u86, u87, u88, u89, u90, u91, u92, u93, u94, u95, u96, u97, u98, u99, u100, u101, u102, u103, u104, u105, u106, u107, u108, u109, u110, u111, u112, u113, u114, u115, u116, u117, u118, u119, u120, u121, u122, u123, u124, u125, u126, u127, u128, u129, u130, u131, u132, u133, u134, u135, u136, u137, u138, u139, u140, u141, u142, u143, u144, u145, u146, u147, u148, u149, u150, u151, u152, u153, u154, u155, u156, u157, u158, u159, u160, u161, u162, u163, u164, u165, u166, u167, u168, u169, u170, u171, undef, undef, undef, undef, undef, undef, undef, undef, undef], []⟩) (Exit.inBlock 0 (Exit.then K (bodyPost Try.prog Try.f30 (WordsPost s w))))) ⟨#[.string s, undef, u2, u3, u4, u5, .int .i64 k, u7, u8, u9, u10, u11, u12, u13, u14, u15, u16, u17, u18, u19, u20, u21, u22, u23, u24, u25, u26, u27, u28, u29, u30, u31, u32, u33, u34, u35, u36, u37, u38, u39, u40, u41, u42, u43, u44, u45, u46, u47, u48, u49, u50, u51, u52, u53, u54, u55, u56, u57, u58, u59, u60, u61, u62, u63, u64, u65, u66, u67, u68, u69, u70, u71, u72, u73, u74, u75, u76, u77, u78, u79, u80, u81, u82, u83, u84, u85, u86, u87, u88, u89, u90, u91, u92, u93, u94, u95, u96, u97, u98, u99, u100, u101, u102, u103, u104, u105, u106, u107, u108, u109, u110, u111, u112, u113, u114, u115, u116, u117, u118, u119, u120, u121, u122, u123, u124, u125, u126, u127, u128, u129, u130, u131, u132, u133, u134, u135, u136, u137, u138, u139, u140, u141, u142, u143, u144, u145, u146, u147, u148, u149, u150, u151, u152, u153, u154, u155, u156, u157, u158, u159, u160, u161, u162, u163, u164, u165, u166, u167, u168, u169, u170, u171, undef, undef, undef, undef, undef, undef, undef, undef, undef], []⟩ wr := by
  obtain ⟨i0, hi, hz0, hz1, hz2⟩ := info_parts tokInfo
  have hg := bs_get s k hlt
  have hll : k < (bs s).length := by rw [bs_length]; exact hlt
  conv => arg 2; whnf
  have n1 : ((s[k].toNat : Int) == 32) = false := by unfold blankB at hbl'; simp at hbl'; simp; omega
  have n2 : ((s[k].toNat : Int) == 9) = false := by unfold blankB at hbl'; simp at hbl'; simp; omega
  have n3 : ((s[k].toNat : Int) == 10) = false := by unfold blankB at hbl'; simp at hbl'; simp; omega
  have n4 : ((s[k].toNat : Int) == 13) = false := by unfold blankB at hbl'; simp at hbl'; simp; omega
  have HB : Hid (blankEnd false (bs s) k = k) := blankEnd_token hll (by rw [hg]; exact hbl') (by rw [hg]; exact h35)
  have e35 : ((s[k].toNat : Int) == 35) = false := by simpa using h35
  have hat := at_bs s k hlt
  clear h35 hbl' hg
  have hsm' : smallB (s[k].toNat : Int) = false := by simpa using hsm
  clear hsm
  have hsz := hbw.size
  have hdg' : digitB (s[k].toNat : Int) = false := by simpa using hdg
  clear hdg
  have HTt : Hid (tokenT (bs s) k = signT (bs s) k) := by
    show tokenT (bs s) k = signT (bs s) k
    unfold tokenT; rw [hat, if_neg (by simp [hsm']), if_neg (by simp [hdg'])]
  by_cases h45 : ((s[k].toNat : Int) == 45) = true
  · have hns : signB (s[k].toNat : Int) = false := by
      simp at h45; rw [h45]; rfl
    have hn : (∃ h : k + 1 < s.size, ((s[k + 1].toNat : Int) != 62) = false ∧ Hid (tokenT (bs s) k = (4, k + 2, 0))) ∨ (∃ h : k + 1 < s.size, ((s[k + 1].toNat : Int) != 62) = true ∧ Hid (tokenT (bs s) k = (0, 0, 3))) ∨ (¬ k + 1 < s.size ∧ Hid (tokenT (bs s) k = (0, 0, 3))) := by
      rcases Nat.lt_or_ge (k + 1) s.size with h | h
      · have h1 := at_bs s (k + 1) h
        rcases h' : ((s[k + 1].toNat : Int) != 62) with _ | _
        · refine .inl ⟨h, h', HTt.out.trans ?_⟩
          unfold signT; rw [hat, h1, hns, h45]
          simp at h'
          rw [h']; rfl
        · refine .inr (.inl ⟨h, h', HTt.out.trans ?_⟩)
          unfold signT; rw [hat, h1, hns, h45]
          have : ((s[k + 1].toNat : Int) == 62) = false := by simpa using h'
          rw [this]; rfl
      · refine .inr (.inr ⟨by omega, HTt.out.trans ?_⟩)
        unfold signT; rw [hat, at_none _ (k + 1) (by rw [bs_length]; exact h), hns, h45]; rfl
    clear hat HTt hll
    rcases hn with ⟨hj, hf0, HT⟩ | ⟨hj, hf0, HT⟩ | ⟨hj, HT⟩
    · have hj2 : (k : Int) + 1 < (s.size : Int) := by omega
      go_wp2_with (first | (go_at_call 51; refine (rLetter_any _ _).mono ?_; rintro e w' ⟨rfl, rfl⟩) | (go_at_call 53; refine (rDigit_any _ _).mono ?_; rintro e w' ⟨rfl, rfl⟩) | (at_builtin; refine wpList_append_own _ rfl (.tmp 159) (.tmp 169) 44 rfl w.heap.size 53 i0 _ 4 40 Try.underlying44 hi hz0 hz1 hz2 rfl (by decide) _ acc.length (toksCells s acc) rfl (hown.alloc _) ⟨wr.heap.size, 0, none⟩ 1 1 [_, _, _, _] rfl rfl (cells_new wr _ _) (one4 _ _ _ _) (by unfold maxLen; omega) (by omega) (by simp; omega) ?_; intro v1 w1 hown1 hg1 _))
      have hb3 : Below w.heap.size w w1 := (hbw.alloc hsz _).grown hg1 (by simp; omega) (fun b hb => (hown.lt b hb).1)
      go_wp2_with fail
      go_roundw
      case rel =>
        unfold RWI
        repeat apply Exists.intro
        exact ⟨rw_step hlt hacc hf He HB HT.out (by go_num) hown1 hb3, rfl⟩
      case measure => simp [rwMu, intOf]; omega
    · go_wp2_with (first | (go_at_call 51; refine (rLetter_any _ _).mono ?_; rintro e w' ⟨rfl, rfl⟩) | (go_at_call 53; refine (rDigit_any _ _).mono ?_; rintro e w' ⟨rfl, rfl⟩))
      go_ret3
      exact rw_bad hlt hf He HB HT.out (by decide) rfl rfl hbw
    · go_wp2_with (first | (go_at_call 51; refine (rLetter_any _ _).mono ?_; rintro e w' ⟨rfl, rfl⟩) | (go_at_call 53; refine (rDigit_any _ _).mono ?_; rintro e w' ⟨rfl, rfl⟩))
      go_ret3
      exact rw_bad hlt hf He HB HT.out (by decide) rfl rfl hbw
  · have h45' : ((s[k].toNat : Int) == 45) = false := by simpa using h45
    clear h45
    by_cases hsg : signB (s[k].toNat : Int) = true
    · have HT : Hid (tokenT (bs s) k = (4, k + 1, 0)) := by
        refine HTt.out.trans ?_
        unfold signT; rw [hat, if_pos hsg]
      clear hat HTt hll
      have hd : (((s[k].toNat : Int) = 40 ∨ (s[k].toNat : Int) = 41) ∨ ((s[k].toNat : Int) = 44 ∨ (s[k].toNat : Int) = 58)) ∨ ((s[k].toNat : Int) = 61 ∨ (s[k].toNat : Int) = 42) := by
        unfold signB at hsg
        simp at hsg
        omega
      clear hsg n1 n2 n3 n4 e35 h45'
      rcases hd with ((hd | hd) | (hd | hd)) | (hd | hd)
      all_goals
        rw [hd] at hsm' hdg'
        go_wp2_with (first | (go_at_call 51; refine (rLetter_any _ _).mono ?_; rintro e w' ⟨rfl, rfl⟩) | (go_at_call 53; refine (rDigit_any _ _).mono ?_; rintro e w' ⟨rfl, rfl⟩) | (at_builtin; refine wpList_append_own _ rfl (.tmp 159) (.tmp 169) 44 rfl w.heap.size 53 i0 _ 4 40 Try.underlying44 hi hz0 hz1 hz2 rfl (by decide) _ acc.length (toksCells s acc) rfl (hown.alloc _) ⟨wr.heap.size, 0, none⟩ 1 1 [_, _, _, _] rfl rfl (cells_new wr _ _) (one4 _ _ _ _) (by unfold maxLen; omega) (by omega) (by simp; omega) ?_; intro v1 w1 hown1 hg1 _))
        have hb3 : Below w.heap.size w w1 := (hbw.alloc hsz _).grown hg1 (by simp; omega) (fun b hb => (hown.lt b hb).1)
        go_wp2_with fail
        go_roundw
        case rel =>
          unfold RWI
          repeat apply Exists.intro
          exact ⟨rw_step hlt hacc hf He HB HT.out (by go_num) hown1 hb3, rfl⟩
        case measure => simp [rwMu, intOf]; omega
    · have HT : Hid (tokenT (bs s) k = (0, 0, 3)) := by
        refine HTt.out.trans ?_
        unfold signT; rw [hat, if_neg hsg, if_neg (by simp only [h45', Bool.false_and]; simp)]
      have m1 : ((s[k].toNat : Int) != 40) = true := by unfold signB at hsg; simp at hsg; simp; omega
      have m2 : ((s[k].toNat : Int) != 41) = true := by unfold signB at hsg; simp at hsg; simp; omega
      have m3 : ((s[k].toNat : Int) != 44) = true := by unfold signB at hsg; simp at hsg; simp; omega
      have m4 : ((s[k].toNat : Int) != 58) = true := by unfold signB at hsg; simp at hsg; simp; omega
      have m5 : ((s[k].toNat : Int) != 61) = true := by unfold signB at hsg; simp at hsg; simp; omega
      have m6 : ((s[k].toNat : Int) != 42) = true := by unfold signB at hsg; simp at hsg; simp; omega
      clear hat HTt hll hsg
      go_wp2_with (first | (go_at_call 51; refine (rLetter_any _ _).mono ?_; rintro e w' ⟨rfl, rfl⟩) | (go_at_call 53; refine (rDigit_any _ _).mono ?_; rintro e w' ⟨rfl, rfl⟩))
      go_ret3
      exact rw_bad hlt hf He HB HT.out (by decide) rfl rfl hbw
end Go.Proofs.Ytlifkfihpmkffaa
