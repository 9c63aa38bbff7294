/- A round of the answer's Words at a blank, and at a remark. -/
import Derived.Test.YtlifkfihpmkffaaLexH0
namespace Go.Proofs.Ytlifkfihpmkffaa
open Go.RowKit
set_option linter.unusedVariables false

set_option maxHeartbeats 8000000 in
set_option maxRecDepth 1000000 in
theorem rw_blank (s : ByteArray) (w wr : World) (K : Act → World → Prop) (k f : Nat) (acc : List (Int × Nat × Nat)) (u2 u3 u4 u5 u7 u8 u9 u10 u11 u12 u13 u14 u15 u16 u17 u18 u19 u20 u21 u22 u23 u24 u25 u26 u27 u28 u29 u30 u31 u32 u33 u34 u35 u36 u37 u38 u39 u40 u41 u42 u43 u44 u45 u46 u47 u48 u49 u50 u51 u52 u53 u54 u55 u56 u57 u58 u59 u60 u61 u62 u63 u64 u65 u66 u67 u68 u69 u70 u71 u72 u73 u74 u75 u76 u77 u78 u79 u80 u81 u82 u83 u84 u85 u86 u87 u88 u89 u90 u91 u92 u93 u94 u95 u96 u97 u98 u99 u100 u101 u102 u103 u104 u105 u106 u107 u108 u109 u110 u111 u112 u113 u114 u115 u116 u117 u118 u119 u120 u121 u122 u123 u124 u125 u126 u127 u128 u129 u130 u131 u132 u133 u134 u135 u136 u137 u138 u139 u140 u141 u142 u143 u144 u145 u146 u147 u148 u149 u150 u151 u152 u153 u154 u155 u156 u157 u158 u159 u160 u161 u162 u163 u164 u165 u166 u167 u168 u169 u170 u171 : Value) (hs : s.size ≤ 1000000) (hk : k ≤ s.size) (hacc : acc.length ≤ k) (hf : s.size < f + k)
    (hown : wr.ownsRow w.heap.size 53 4 u5 acc.length (toksCells s acc)) (hbw : Below w.heap.size w wr) (He : Hid (wordsE (bs s) = wordsA (bs s) f (blankEnd false (bs s) k) acc)) (hlt : k < s.size) (hbl : blankB (s[k].toNat : Int) = true) :
    Code.wp Try.prog rwBody (Exit.then (fun a' w' => RWI s w a' w' ∧ rwMu s a' < rwMu s ⟨#[.string s, undef, u2, u3, u4, u5, .int .i64 k, u7, u8, u9, u10, u11, u12, u13, u14, u15, u16, u17, u18, u19, u20, u21, u22, u23, u24, u25, u26, u27, u28, u29, u30, u31, u32, u33, u34, u35, u36, u37, u38, u39, u40, u41, u42, u43, u44, u45, u46, u47, u48, u49, u50, u51, u52, u53, u54, u55, u56, u57, u58, u59, u60, u61, u62, u63, u64, u65, u66, u67, u68, u69, u70, u71, u72, u73, u74, u75, u76, u77, u78, u79, u80, u81, u82, u83, u84, u85, u86, u87, u88, u89, u90, u91, u92, u93, u94, u95, u96, u97, u98, u99, u100, u101, u102, u103, u104, u105, u106, u107, u108, u109, u110, u111, u112, u113, u114, u115, u116, u117, u118, u119, u120, u121, u122, u123, u124, u125, u126, u127, u128, u129, u130, u131, u132, u133, u134, u135, u136, u137, u138, u139, u140, u141, u142, u143, u144, u145, u146, u147, u148, u149, u150, u151, u152, u153, u154, u155, u156, u157, u158, u159, u160, u161, u162, u163, u164, u165, u166, u167, u168, u169, u170, u171, undef, undef, undef, undef, undef, undef, undef, undef, undef], []⟩) (Exit.inBlock 0 (Exit.then K (bodyPost Try.prog Try.f30 (WordsPost s w))))) ⟨#[.string s, undef, u2, u3, u4, u5, .int .i64 k, u7, u8, u9, u10, u11, u12, u13, u14, u15, u16, u17, u18, u19, u20, u21, u22, u23, u24, u25, u26, u27, u28, u29, u30, u31, u32, u33, u34, u35, u36, u37, u38, u39, u40, u41, u42, u43, u44, u45, u46, u47, u48, u49, u50, u51, u52, u53, u54, u55, u56, u57, u58, u59, u60, u61, u62, u63, u64, u65, u66, u67, u68, u69, u70, u71, u72, u73, u74, u75, u76, u77, u78, u79, u80, u81, u82, u83, u84, u85, u86, u87, u88, u89, u90, u91, u92, u93, u94, u95, u96, u97, u98, u99, u100, u101, u102, u103, u104, u105, u106, u107, u108, u109, u110, u111, u112, u113, u114, u115, u116, u117, u118, u119, u120, u121, u122, u123, u124, u125, u126, u127, u128, u129, u130, u131, u132, u133, u134, u135, u136, u137, u138, u139, u140, u141, u142, u143, u144, u145, u146, u147, u148, u149, u150, u151, u152, u153, u154, u155, u156, u157, u158, u159, u160, u161, u162, u163, u164, u165, u166, u167, u168, u169, u170, u171, undef, undef, undef, undef, undef, undef, undef, undef, undef], []⟩ wr := by
  obtain ⟨i0, hi, hz0, hz1, hz2⟩ := info_parts tokInfo
  have hg := bs_get s k hlt
  have hll : k < (bs s).length := by rw [bs_length]; exact hlt
  conv => arg 2; whnf
  have HE : Hid (blankEnd false (bs s) k = blankEnd false (bs s) (k + 1)) := blankEnd_blank hll (by rw [hg]; exact hbl)
  have hd : ((s[k].toNat : Int) = 32 ∨ (s[k].toNat : Int) = 9) ∨ ((s[k].toNat : Int) = 10 ∨ (s[k].toNat : Int) = 13) := by
    unfold blankB at hbl
    simp at hbl
    omega
  clear hbl hg hll
  rcases hd with (hd | hd) | (hd | hd)
  all_goals
    go_wp2_with fail
    go_roundw
    case rel =>
      unfold RWI
      repeat apply Exists.intro
      exact ⟨⟨k + 1, f, acc, by omega, by omega, by omega, by go_num, hown, hbw, by rw [He.out, HE.out]⟩, rfl⟩
    case measure => simp [rwMu, intOf]; omega

set_option maxHeartbeats 8000000 in
set_option maxRecDepth 1000000 in
theorem rw_hash (s : ByteArray) (w wr : World) (K : Act → World → Prop) (k f : Nat) (acc : List (Int × Nat × Nat)) (u2 u3 u4 u5 u7 u8 u9 u10 u11 u12 u13 u14 u15 u16 u17 u18 u19 u20 u21 u22 u23 u24 u25 u26 u27 u28 u29 u30 u31 u32 u33 u34 u35 u36 u37 u38 u39 u40 u41 u42 u43 u44 u45 u46 u47 u48 u49 u50 u51 u52 u53 u54 u55 u56 u57 u58 u59 u60 u61 u62 u63 u64 u65 u66 u67 u68 u69 u70 u71 u72 u73 u74 u75 u76 u77 u78 u79 u80 u81 u82 u83 u84 u85 u86 u87 u88 u89 u90 u91 u92 u93 u94 u95 u96 u97 u98 u99 u100 u101 u102 u103 u104 u105 u106 u107 u108 u109 u110 u111 u112 u113 u114 u115 u116 u117 u118 u119 u120 u121 u122 u123 u124 u125 u126 u127 u128 u129 u130 u131 u132 u133 u134 u135 u136 u137 u138 u139 u140 u141 u142 u143 u144 u145 u146 u147 u148 u149 u150 u151 u152 u153 u154 u155 u156 u157 u158 u159 u160 u161 u162 u163 u164 u165 u166 u167 u168 u169 u170 u171 : Value) (hs : s.size ≤ 1000000) (hk : k ≤ s.size) (hacc : acc.length ≤ k) (hf : s.size < f + k)
    (hown : wr.ownsRow w.heap.size 53 4 u5 acc.length (toksCells s acc)) (hbw : Below w.heap.size w wr) (He : Hid (wordsE (bs s) = wordsA (bs s) f (blankEnd false (bs s) k) acc)) (hlt : k < s.size) (hbl' : blankB (s[k].toNat : Int) = false) (h35 : (s[k].toNat : Int) = 35) :
    Code.wp Try.prog rwBody (Exit.then (fun a' w' => RWI s w a' w' ∧ rwMu s a' < rwMu s ⟨#[.string s, undef, u2, u3, u4, u5, .int .i64 k, u7, u8, u9, u10, u11, u12, u13, u14, u15, u16, u17, u18, u19, u20, u21, u22, u23, u24, u25, u26, u27, u28, u29, u30, u31, u32, u33, u34, u35, u36, u37, u38, u39, u40, u41, u42, u43, u44, u45, u46, u47, u48, u49, u50, u51, u52, u53, u54, u55, u56, u57, u58, u59, u60, u61, u62, u63, u64, u65, u66, u67, u68, u69, u70, u71, u72, u73, u74, u75, u76, u77, u78, u79, u80, u81, u82, u83, u84, u85, u86, u87, u88, u89, u90, u91, u92, u93, u94, u95, u96, u97, u98, u99, u100, u101, u102, u103, u104, u105, u106, u107, u108, u109, u110, u111, u112, u113, u114, u115, u116, u117, u118, u119, u120, u121, u122, u123, u124, u125, u126, u127, u128, u129, u130, u131, u132, u133, u134, u135, u136, u137, u138, u139, u140, u141, u142, u143, u144, u145, u146, u147, u148, u149, u150, u151, u152, u153, u154, u155, u156, u157, u158, u159, u160, u161, u162, u163, u164, u165, u166, u167, u168, u169, u170, u171, undef, undef, undef, undef, undef, undef, undef, undef, undef], []⟩) (Exit.inBlock 0 (Exit.then K (bodyPost Try.prog Try.f30 (WordsPost s w))))) ⟨#[.string s, undef, u2, u3, u4, u5, .int .i64 k, u7, u8, u9, u10, u11, u12, u13, u14, u15, u16, u17, u18, u19, u20, u21, u22, u23, u24, u25, u26, u27, u28, u29, u30, u31, u32, u33, u34, u35, u36, u37, u38, u39, u40, u41, u42, u43, u44, u45, u46, u47, u48, u49, u50, u51, u52, u53, u54, u55, u56, u57, u58, u59, u60, u61, u62, u63, u64, u65, u66, u67, u68, u69, u70, u71, u72, u73, u74, u75, u76, u77, u78, u79, u80, u81, u82, u83, u84, u85, u86, u87, u88, u89, u90, u91, u92, u93, u94, u95, u96, u97, u98, u99, u100, u101, u102, u103, u104, u105, u106, u107, u108, u109, u110, u111, u112, u113, u114, u115, u116, u117, u118, u119, u120, u121, u122, u123, u124, u125, u126, u127, u128, u129, u130, u131, u132, u133, u134, u135, u136, u137, u138, u139, u140, u141, u142, u143, u144, u145, u146, u147, u148, u149, u150, u151, u152, u153, u154, u155, u156, u157, u158, u159, u160, u161, u162, u163, u164, u165, u166, u167, u168, u169, u170, u171, undef, undef, undef, undef, undef, undef, undef, undef, undef], []⟩ wr := by
  obtain ⟨i0, hi, hz0, hz1, hz2⟩ := info_parts tokInfo
  have hg := bs_get s k hlt
  have hll : k < (bs s).length := by rw [bs_length]; exact hlt
  conv => arg 2; whnf
  have n1 : ((s[k].toNat : Int) == 32) = false := by unfold blankB at hbl'; simp at hbl'; simp; omega
  have n2 : ((s[k].toNat : Int) == 9) = false := by unfold blankB at hbl'; simp at hbl'; simp; omega
  have n3 : ((s[k].toNat : Int) == 10) = false := by unfold blankB at hbl'; simp at hbl'; simp; omega
  have n4 : ((s[k].toNat : Int) == 13) = false := by unfold blankB at hbl'; simp at hbl'; simp; omega
  have HE : Hid (blankEnd false (bs s) k = blankEnd true (bs s) k) := blankEnd_hash hll (by rw [hg]; exact h35)
  have e35 : ((s[k].toNat : Int) == 35) = true := by simpa using h35
  have H35 := Lib.hid h35
  clear h35 hbl' hg hll
  go_wp2_with fail
  go_loop [6] (fun t => ∃ j : Nat, k ≤ j ∧ j ≤ s.size ∧ t = .int .i64 j ∧ blankEnd false (bs s) k = blankEnd true (bs s) j) (fun t => s.size - (intOf t).toNat)
  case atStart => exact ⟨k, Nat.le_refl _, hk, rfl, HE.out⟩
  case round =>
    obtain ⟨j, hkj, hjs, rfl, hej⟩ := hrel
    have Hej := Lib.hid hej
    clear hej
    go_wp2_with fail
    · have hj : j < s.size := by assumption
      have hgj := bs_get s j hj
      have hne : ((s[j].toNat : Int) != 10) = true := by assumption
      go_round
      case rel => exact ⟨j + 1, by omega, by omega, by go_num, Hej.out.trans (blankEnd_rem (by rw [bs_length]; exact hj) (by rw [hgj]; simpa using hne))⟩
      case measure => simp [intOf]; omega
    · have hj : j < s.size := by assumption
      have hgj := bs_get s j hj
      have hne : ((s[j].toNat : Int) != 10) = false := by assumption
      have he10 : (s[j].toNat : Int) = 10 := by simpa using hne
      have hjk : j ≠ k := by
        rintro rfl
        have := H35.out
        omega
      have HF := blankEnd_feed (l := bs s) (k := j) (by rw [bs_length]; exact hj) (by rw [hgj]; exact he10)
      go_roundw
      case rel =>
        unfold RWI
        repeat apply Exists.intro
        exact ⟨⟨j, f, acc, by omega, by omega, by omega, rfl, hown, hbw, by rw [He.out, Hej.out, HF]⟩, rfl⟩
      case measure => simp [rwMu, intOf]; omega
    · have HF : blankEnd true (bs s) j = blankEnd false (bs s) j := by
        rw [blankEnd_end (by rw [bs_length]; omega), blankEnd_end (by rw [bs_length]; omega)]
      go_roundw
      case rel =>
        unfold RWI
        repeat apply Exists.intro
        exact ⟨⟨j, f, acc, by omega, by omega, by omega, rfl, hown, hbw, by rw [He.out, Hej.out, HF]⟩, rfl⟩
      case measure => simp [rwMu, intOf]; omega
end Go.Proofs.Ytlifkfihpmkffaa
