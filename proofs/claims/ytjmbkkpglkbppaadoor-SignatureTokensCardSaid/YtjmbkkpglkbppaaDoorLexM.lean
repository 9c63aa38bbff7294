
import Derived.Test.YtjmbkkpglkbppaaDoorLexE
/- The contracts of the small functions of the document's answer for package lex: Letter, Digit, Inner, Keyword. -/
namespace Go.Proofs.YtjmbkkpglkbppaaDoor
open Go.RowKit

set_option maxHeartbeats 400000 in
theorem rLetter_any (c : Int) (w : World) :
    Calls Tryd.prog 21 #[.int .u8 c] w fun e w' => e = .returned (.bool (smallB c)) ∧ w = w' := by
  go_enter Tryd.func21, Tryd.ntmps21
  go_wp2
  all_goals
    go_ret
    exact ⟨lret_bool (by simp [smallB, *] <;> omega), rfl⟩
set_option maxHeartbeats 400000 in
theorem rDigit_any (c : Int) (w : World) :
    Calls Tryd.prog 24 #[.int .u8 c] w fun e w' => e = .returned (.bool (digitB c)) ∧ w = w' := by
  go_enter Tryd.func24, Tryd.ntmps24
  go_wp2
  all_goals
    go_ret
    exact ⟨lret_bool (by simp [digitB, *] <;> omega), rfl⟩
set_option maxHeartbeats 400000 in
theorem rInner_any (c : Int) (w : World) :
    Calls Tryd.prog 22 #[.int .u8 c] w fun e w' => e = .returned (.bool (innerB c)) ∧ w = w' := by
  by_cases h1 : smallB c = true <;> by_cases h2 : digitB c = true
  all_goals
    go_enter Tryd.func22, Tryd.ntmps22
    go_wp2_with (first | (go_at_call 21; refine (rLetter_any _ _).mono ?_; rintro e w' ⟨rfl, rfl⟩) | (go_at_call 24; refine (rDigit_any _ _).mono ?_; rintro e w' ⟨rfl, rfl⟩))
  all_goals
    go_ret
    exact ⟨lret_bool (by simp [innerB, *]), rfl⟩
theorem kwS_eq' (s : ByteArray) : kwB (bs s) = ([102, 117, 110] == s.toList || [108, 101, 116] == s.toList || [114, 101, 99] == s.toList || [105, 110] == s.toList || [105, 102] == s.toList || [116, 104, 101, 110] == s.toList || [101, 108, 115, 101] == s.toList || [116, 114, 117, 101] == s.toList || [102, 97, 108, 115, 101] == s.toList || [105, 110, 116] == s.toList || [98, 111, 111, 108] == s.toList) := by
  rw [← kwS_eq]
  unfold kwS
  have hc : ∀ a b : List UInt8, (a == b) = (b == a) := fun a b => by rw [Bool.eq_iff_iff, beq_iff_eq, beq_iff_eq]; exact eq_comm
  simp only [hc s.toList]
set_option maxHeartbeats 1000000 in
theorem rKeyword_any (s : ByteArray) (w : World) :
    Calls Tryd.prog 23 #[.string s] w fun e w' => e = .returned (.bool (kwB (bs s))) ∧ Below w.heap.size w w' := by
  go_enter Tryd.func23, Tryd.ntmps23
  go_wp2_with fail
  refine wp_loop_rounds 12 ?_
  iterate 11
    rw [rounds_succ]
    go_wp2_with fail
    · go_ret
      exact ⟨lret_bool (by rw [kwS_eq']; simp [*]), (Below.refl _ _).alloc (Nat.le_refl _) _⟩
  rw [rounds_succ]
  go_wp2_with fail
  go_ret
  exact ⟨lret_bool (by rw [kwS_eq']; simp [*]), (Below.refl _ _).alloc (Nat.le_refl _) _⟩
end Go.Proofs.YtjmbkkpglkbppaaDoor
/- What holds at the head of a round of the answer's Words; what a round's end does to it. -/
namespace Go.Proofs.YtjmbkkpglkbppaaDoor
open Go.RowKit

theorem toks_snoc4 (s : ByteArray) (ts : List (Int × Nat × Nat)) (a : Int) (b c : Nat) : toksCells s (ts ++ [(a, b, c)]) = toksCells s ts ++ [.int .i64 a, .string (s.extract b c), .int .i64 b, .int .i64 c] := by
  rw [toksCells_snoc]; rfl
theorem one4 (a b c : Int) (t : ByteArray) : ∀ u ∈ [Value.int .i64 a, .string t, .int .i64 b, .int .i64 c], u.oneCell' = true := by
  intro u hu
  simp at hu
  rcases hu with rfl | rfl | rfl | rfl <;> rfl
/-- What holds at the head of a round. -/
def RWRel (s : ByteArray) (w : World) (v t : Value) (wr : World) : Prop :=
  ∃ (k f : Nat) (acc : List (Int × Nat × Nat)), k ≤ s.size ∧ acc.length ≤ k ∧ s.size < f + k ∧ t = .int .i64 k ∧ wr.ownsRow w.heap.size 45 4 v acc.length (toksCells s acc) ∧ Below w.heap.size w wr ∧ wordsE (bs s) = wordsA (bs s) f (blankEnd false (bs s) k) acc

theorem rw_step {s : ByteArray} {w w1 : World} {v1 t : Value} {k f to : Nat} {acc : List (Int × Nat × Nat)} {kd : Int} (hlt : k < s.size) (hacc : acc.length ≤ k) (hf : s.size < f + k)
    (He : Hid (wordsE (bs s) = wordsA (bs s) f (blankEnd false (bs s) k) acc)) (HB : Hid (blankEnd false (bs s) k = k)) (HT : tokenT (bs s) k = (kd, to, 0))
    (ht : t = .int .i64 to) (hown : w1.ownsRow w.heap.size 45 4 v1 (acc.length + 1) (toksCells s acc ++ [.int .i64 kd, .string (s.extract k to), .int .i64 k, .int .i64 to])) (hb : Below w.heap.size w w1) : RWRel s w v1 t w1 := by
  have hok := tokenT_ok (bs s) k (by rw [bs_length]; exact hlt)
  rw [HT, bs_length] at hok
  obtain ⟨h1, h2⟩ := hok rfl
  have h1 : k < to := h1
  have h2 : to ≤ s.size := h2
  refine ⟨to, f - 1, acc ++ [(kd, k, to)], h2, by simp; omega, by omega, ht, ?_, hb, ?_⟩
  · rw [toks_snoc4, List.length_append]; exact hown
  · rw [He.out, HB.out]; exact wordsA_go (by omega) (by rw [bs_length]; exact hlt) HT
theorem rw_bad {s : ByteArray} {w w1 : World} {k f to : Nat} {acc : List (Int × Nat × Nat)} {kd er a b : Int} (hlt : k < s.size) (hf : s.size < f + k)
    (He : Hid (wordsE (bs s) = wordsA (bs s) f (blankEnd false (bs s) k) acc)) (HB : Hid (blankEnd false (bs s) k = k)) (HT : tokenT (bs s) k = (kd, to, er)) (h0 : er ≠ 0) (ha : a = k) (hb' : b = er)
    (hb : Below w.heap.size w w1) : WordsPost s w (.returned (.tuple #[.slice none 0 0, .int .i64 a, .int .i64 b])) w1 := by
  subst ha; subst hb'
  refine ⟨hb, ?_⟩
  rw [He.out, HB.out, wordsA_bad (by omega) (by rw [bs_length]; exact hlt) HT h0]


/-- The first loop of a code. -/
def firstLoop : Code → Option Code
  | .loop c => some c
  | .seq a b => match firstLoop a with
    | some c => some c
    | none => firstLoop b
  | .block _ c => firstLoop c
  | .scope c => firstLoop c
  | .cond _ a b => match firstLoop a with
    | some c => some c
    | none => firstLoop b
  | _ => none
noncomputable def rwBody : Code := ((Tryd.f13.body.bind firstLoop).getD .skip)
set_option maxRecDepth 1000000 in
/-- The loop's invariant, and its measure. -/
def RWI (s : ByteArray) (w : World) (a : Act) (w' : World) : Prop := ∃ u2 u3 u4 u5 u6 u7 u8 u9 u10 u11 u12 u13 u14 u15 u16 u17 u18 u19 u20 u21 u22 u23 u24 u25 u26 u27 u28 u29 u30 u31 u32 u33 u34 u35 u36 u37 u38 u39 u40 u41 u42 u43 u44 u45 u46 u47 u48 u49 u50 u51 u52 u53 u54 u55 u56 u57 u58 u59 u60 u61 u62 u63 u64 u65 u66 u67 u68 u69 u70 u71 u72 u73 u74 u75 u76 u77 u78 u79 u80 u81 u82 u83 u84 u85 u86 u87 u88 u89 u90 u91 u92 u93 u94 u95 u96 u97 u98 u99 u100 u101 u102 u103 u104 u105 u106 u107 u108 u109 u110 u111 u112 u113 u114 u115 u116 u117 u118 u119 u120 u121 u122 u123 u124 u125 u126 u127 u128 u129 u130 u131 u132 u133 u134 u135 u136 u137 u138 u139 u140 u141 u142 u143 u144 u145 u146 u147 u148 u149 u150 u151 u152 u153 u154 u155 u156 u157 u158 u159 u160 u161 u162 u163 u164 u165 u166 u167 u168 u169 u170 u171 : Value, RWRel s w u5 u6 w' ∧ a = ⟨#[.string s, undef, u2, u3, u4, u5, u6, u7, u8, u9, u10, u11, u12, u13, u14, u15, u16, u17, u18, u19, u20, u21, u22, u23, u24, u25, u26, u27, u28, u29, u30, u31, u32, u33, u34, u35, u36, u37, u38, u39, u40, u41, u42, u43, u44, u45, u46, u47, u48, u49, u50, u51, u52, u53, u54, u55, u56, u57, u58, u59, u60, u61, u62, u63, u64, u65, u66, u67, u68, u69, u70, u71, u72, u73, u74, u75, u76, u77, u78, u79, u80, u81, u82, u83, u84, u85, u86, u87, u88, u89, u90, u91, u92, u93, u94, u95, u96, u97, u98, u99, u100, u101, u102, u103, u104, u105, u106, u107, u108, u109, u110, u111, u112, u113, u114, u115, u116, u117, u118, u119, u120, u121, u122, u123, u124, u125, u126, u127, u128, u129, u130, u131, u132, u133, u134, u135, u136, u137, u138, u139, u140, u141, u142, u143, u144, u145, u146, u147, u148, u149, u150, u151, u152, u153, u154, u155, u156, u157, u158, u159, u160, u161, u162, u163, u164, u165, u166, u167, u168, u169, u170, u171, undef, undef, undef, undef, undef, undef, undef, undef, undef], []⟩
def rwMu (s : ByteArray) (a : Act) : Nat := s.size - (intOf (a.tmps.getD 6 undef)).toNat
end Go.Proofs.YtjmbkkpglkbppaaDoor
/- A round of the answer's Words at a blank, and at a remark. -/
namespace Go.Proofs.YtjmbkkpglkbppaaDoor
open Go.RowKit
set_option linter.unusedVariables false

set_option maxHeartbeats 8000000 in
set_option maxRecDepth 1000000 in
theorem rw_blank (s : ByteArray) (w wr : World) (K : Act → World → Prop) (k f : Nat) (acc : List (Int × Nat × Nat)) (u2 u3 u4 u5 u7 u8 u9 u10 u11 u12 u13 u14 u15 u16 u17 u18 u19 u20 u21 u22 u23 u24 u25 u26 u27 u28 u29 u30 u31 u32 u33 u34 u35 u36 u37 u38 u39 u40 u41 u42 u43 u44 u45 u46 u47 u48 u49 u50 u51 u52 u53 u54 u55 u56 u57 u58 u59 u60 u61 u62 u63 u64 u65 u66 u67 u68 u69 u70 u71 u72 u73 u74 u75 u76 u77 u78 u79 u80 u81 u82 u83 u84 u85 u86 u87 u88 u89 u90 u91 u92 u93 u94 u95 u96 u97 u98 u99 u100 u101 u102 u103 u104 u105 u106 u107 u108 u109 u110 u111 u112 u113 u114 u115 u116 u117 u118 u119 u120 u121 u122 u123 u124 u125 u126 u127 u128 u129 u130 u131 u132 u133 u134 u135 u136 u137 u138 u139 u140 u141 u142 u143 u144 u145 u146 u147 u148 u149 u150 u151 u152 u153 u154 u155 u156 u157 u158 u159 u160 u161 u162 u163 u164 u165 u166 u167 u168 u169 u170 u171 : Value) (hs : s.size ≤ 1000000) (hk : k ≤ s.size) (hacc : acc.length ≤ k) (hf : s.size < f + k)
    (hown : wr.ownsRow w.heap.size 45 4 u5 acc.length (toksCells s acc)) (hbw : Below w.heap.size w wr) (He : Hid (wordsE (bs s) = wordsA (bs s) f (blankEnd false (bs s) k) acc)) (hlt : k < s.size) (hbl : blankB (s[k].toNat : Int) = true) :
    Code.wp Tryd.prog rwBody (Exit.then (fun a' w' => RWI s w a' w' ∧ rwMu s a' < rwMu s ⟨#[.string s, undef, u2, u3, u4, u5, .int .i64 k, u7, u8, u9, u10, u11, u12, u13, u14, u15, u16, u17, u18, u19, u20, u21, u22, u23, u24, u25, u26, u27, u28, u29, u30, u31, u32, u33, u34, u35, u36, u37, u38, u39, u40, u41, u42, u43, u44, u45, u46, u47, u48, u49, u50, u51, u52, u53, u54, u55, u56, u57, u58, u59, u60, u61, u62, u63, u64, u65, u66, u67, u68, u69, u70, u71, u72, u73, u74, u75, u76, u77, u78, u79, u80, u81, u82, u83, u84, u85, u86, u87, u88, u89, u90, u91, u92, u93, u94, u95, u96, u97, u98, u99, u100, u101, u102, u103, u104, u105, u106, u107, u108, u109, u110, u111, u112, u113, u114, u115, u116, u117, u118, u119, u120, u121, u122, u123, u124, u125, u126, u127, u128, u129, u130, u131, u132, u133, u134, u135, u136, u137, u138, u139, u140, u141, u142, u143, u144, u145, u146, u147, u148, u149, u150, u151, u152, u153, u154, u155, u156, u157, u158, u159, u160, u161, u162, u163, u164, u165, u166, u167, u168, u169, u170, u171, undef, undef, undef, undef, undef, undef, undef, undef, undef], []⟩) (Exit.inBlock 0 (Exit.then K (bodyPost Tryd.prog Tryd.f13 (WordsPost s w))))) ⟨#[.string s, undef, u2, u3, u4, u5, .int .i64 k, u7, u8, u9, u10, u11, u12, u13, u14, u15, u16, u17, u18, u19, u20, u21, u22, u23, u24, u25, u26, u27, u28, u29, u30, u31, u32, u33, u34, u35, u36, u37, u38, u39, u40, u41, u42, u43, u44, u45, u46, u47, u48, u49, u50, u51, u52, u53, u54, u55, u56, u57, u58, u59, u60, u61, u62, u63, u64, u65, u66, u67, u68, u69, u70, u71, u72, u73, u74, u75, u76, u77, u78, u79, u80, u81, u82, u83, u84, u85, u86, u87, u88, u89, u90, u91, u92, u93, u94, u95, u96, u97, u98, u99, u100, u101, u102, u103, u104, u105, u106, u107, u108, u109, u110, u111, u112, u113, u114, u115, u116, u117, u118, u119, u120, u121, u122, u123, u124, u125, u126, u127, u128, u129, u130, u131, u132, u133, u134, u135, u136, u137, u138, u139, u140, u141, u142, u143, u144, u145, u146, u147, u148, u149, u150, u151, u152, u153, u154, u155, u156, u157, u158, u159, u160, u161, u162, u163, u164, u165, u166, u167, u168, u169, u170, u171, undef, undef, undef, undef, undef, undef, undef, undef, undef], []⟩ wr := by
  obtain ⟨i0, hi, hz0, hz1, hz2⟩ := info_parts tokInfo
  have hg := bs_get s k hlt
  have hll : k < (bs s).length := by rw [bs_length]; exact hlt
  conv => arg 2; whnf
  have HE : Hid (blankEnd false (bs s) k = blankEnd false (bs s) (k + 1)) := blankEnd_blank hll (by rw [hg]; exact hbl)
  have hd : ((s[k].toNat : Int) = 32 ∨ (s[k].toNat : Int) = 9) ∨ ((s[k].toNat : Int) = 10 ∨ (s[k].toNat : Int) = 13) := by
    unfold blankB at hbl
    simp at hbl
    omega
  clear hbl hg hll
  rcases hd with (hd | hd) | (hd | hd)
  all_goals
    go_wp2_with fail
    go_roundw
    case rel =>
      unfold RWI
      repeat apply Exists.intro
      exact ⟨⟨k + 1, f, acc, by omega, by omega, by omega, by go_num, hown, hbw, by rw [He.out, HE.out]⟩, rfl⟩
    case measure => simp [rwMu, intOf]; omega

set_option maxHeartbeats 8000000 in
set_option maxRecDepth 1000000 in
theorem rw_hash (s : ByteArray) (w wr : World) (K : Act → World → Prop) (k f : Nat) (acc : List (Int × Nat × Nat)) (u2 u3 u4 u5 u7 u8 u9 u10 u11 u12 u13 u14 u15 u16 u17 u18 u19 u20 u21 u22 u23 u24 u25 u26 u27 u28 u29 u30 u31 u32 u33 u34 u35 u36 u37 u38 u39 u40 u41 u42 u43 u44 u45 u46 u47 u48 u49 u50 u51 u52 u53 u54 u55 u56 u57 u58 u59 u60 u61 u62 u63 u64 u65 u66 u67 u68 u69 u70 u71 u72 u73 u74 u75 u76 u77 u78 u79 u80 u81 u82 u83 u84 u85 u86 u87 u88 u89 u90 u91 u92 u93 u94 u95 u96 u97 u98 u99 u100 u101 u102 u103 u104 u105 u106 u107 u108 u109 u110 u111 u112 u113 u114 u115 u116 u117 u118 u119 u120 u121 u122 u123 u124 u125 u126 u127 u128 u129 u130 u131 u132 u133 u134 u135 u136 u137 u138 u139 u140 u141 u142 u143 u144 u145 u146 u147 u148 u149 u150 u151 u152 u153 u154 u155 u156 u157 u158 u159 u160 u161 u162 u163 u164 u165 u166 u167 u168 u169 u170 u171 : Value) (hs : s.size ≤ 1000000) (hk : k ≤ s.size) (hacc : acc.length ≤ k) (hf : s.size < f + k)
    (hown : wr.ownsRow w.heap.size 45 4 u5 acc.length (toksCells s acc)) (hbw : Below w.heap.size w wr) (He : Hid (wordsE (bs s) = wordsA (bs s) f (blankEnd false (bs s) k) acc)) (hlt : k < s.size) (hbl' : blankB (s[k].toNat : Int) = false) (h35 : (s[k].toNat : Int) = 35) :
    Code.wp Tryd.prog rwBody (Exit.then (fun a' w' => RWI s w a' w' ∧ rwMu s a' < rwMu s ⟨#[.string s, undef, u2, u3, u4, u5, .int .i64 k, u7, u8, u9, u10, u11, u12, u13, u14, u15, u16, u17, u18, u19, u20, u21, u22, u23, u24, u25, u26, u27, u28, u29, u30, u31, u32, u33, u34, u35, u36, u37, u38, u39, u40, u41, u42, u43, u44, u45, u46, u47, u48, u49, u50, u51, u52, u53, u54, u55, u56, u57, u58, u59, u60, u61, u62, u63, u64, u65, u66, u67, u68, u69, u70, u71, u72, u73, u74, u75, u76, u77, u78, u79, u80, u81, u82, u83, u84, u85, u86, u87, u88, u89, u90, u91, u92, u93, u94, u95, u96, u97, u98, u99, u100, u101, u102, u103, u104, u105, u106, u107, u108, u109, u110, u111, u112, u113, u114, u115, u116, u117, u118, u119, u120, u121, u122, u123, u124, u125, u126, u127, u128, u129, u130, u131, u132, u133, u134, u135, u136, u137, u138, u139, u140, u141, u142, u143, u144, u145, u146, u147, u148, u149, u150, u151, u152, u153, u154, u155, u156, u157, u158, u159, u160, u161, u162, u163, u164, u165, u166, u167, u168, u169, u170, u171, undef, undef, undef, undef, undef, undef, undef, undef, undef], []⟩) (Exit.inBlock 0 (Exit.then K (bodyPost Tryd.prog Tryd.f13 (WordsPost s w))))) ⟨#[.string s, undef, u2, u3, u4, u5, .int .i64 k, u7, u8, u9, u10, u11, u12, u13, u14, u15, u16, u17, u18, u19, u20, u21, u22, u23, u24, u25, u26, u27, u28, u29, u30, u31, u32, u33, u34, u35, u36, u37, u38, u39, u40, u41, u42, u43, u44, u45, u46, u47, u48, u49, u50, u51, u52, u53, u54, u55, u56, u57, u58, u59, u60, u61, u62, u63, u64, u65, u66, u67, u68, u69, u70, u71, u72, u73, u74, u75, u76, u77, u78, u79, u80, u81, u82, u83, u84, u85, u86, u87, u88, u89, u90, u91, u92, u93, u94, u95, u96, u97, u98, u99, u100, u101, u102, u103, u104, u105, u106, u107, u108, u109, u110, u111, u112, u113, u114, u115, u116, u117, u118, u119, u120, u121, u122, u123, u124, u125, u126, u127, u128, u129, u130, u131, u132, u133, u134, u135, u136, u137, u138, u139, u140, u141, u142, u143, u144, u145, u146, u147, u148, u149, u150, u151, u152, u153, u154, u155, u156, u157, u158, u159, u160, u161, u162, u163, u164, u165, u166, u167, u168, u169, u170, u171, undef, undef, undef, undef, undef, undef, undef, undef, undef], []⟩ wr := by
  obtain ⟨i0, hi, hz0, hz1, hz2⟩ := info_parts tokInfo
  have hg := bs_get s k hlt
  have hll : k < (bs s).length := by rw [bs_length]; exact hlt
  conv => arg 2; whnf
  have n1 : ((s[k].toNat : Int) == 32) = false := by unfold blankB at hbl'; simp at hbl'; simp; omega
  have n2 : ((s[k].toNat : Int) == 9) = false := by unfold blankB at hbl'; simp at hbl'; simp; omega
  have n3 : ((s[k].toNat : Int) == 10) = false := by unfold blankB at hbl'; simp at hbl'; simp; omega
  have n4 : ((s[k].toNat : Int) == 13) = false := by unfold blankB at hbl'; simp at hbl'; simp; omega
  have HE : Hid (blankEnd false (bs s) k = blankEnd true (bs s) k) := blankEnd_hash hll (by rw [hg]; exact h35)
  have e35 : ((s[k].toNat : Int) == 35) = true := by simpa using h35
  have H35 := Lib.hid h35
  clear h35 hbl' hg hll
  go_wp2_with fail
  go_loop [6] (fun t => ∃ j : Nat, k ≤ j ∧ j ≤ s.size ∧ t = .int .i64 j ∧ blankEnd false (bs s) k = blankEnd true (bs s) j) (fun t => s.size - (intOf t).toNat)
  case atStart => exact ⟨k, Nat.le_refl _, hk, rfl, HE.out⟩
  case round =>
    obtain ⟨j, hkj, hjs, rfl, hej⟩ := hrel
    have Hej := Lib.hid hej
    clear hej
    go_wp2_with fail
    · have hj : j < s.size := by assumption
      have hgj := bs_get s j hj
      have hne : ((s[j].toNat : Int) != 10) = true := by assumption
      go_round
      case rel => exact ⟨j + 1, by omega, by omega, by go_num, Hej.out.trans (blankEnd_rem (by rw [bs_length]; exact hj) (by rw [hgj]; simpa using hne))⟩
      case measure => simp [intOf]; omega
    · have hj : j < s.size := by assumption
      have hgj := bs_get s j hj
      have hne : ((s[j].toNat : Int) != 10) = false := by assumption
      have he10 : (s[j].toNat : Int) = 10 := by simpa using hne
      have hjk : j ≠ k := by
        rintro rfl
        have := H35.out
        omega
      have HF := blankEnd_feed (l := bs s) (k := j) (by rw [bs_length]; exact hj) (by rw [hgj]; exact he10)
      go_roundw
      case rel =>
        unfold RWI
        repeat apply Exists.intro
        exact ⟨⟨j, f, acc, by omega, by omega, by omega, rfl, hown, hbw, by rw [He.out, Hej.out, HF]⟩, rfl⟩
      case measure => simp [rwMu, intOf]; omega
    · have HF : blankEnd true (bs s) j = blankEnd false (bs s) j := by
        rw [blankEnd_end (by rw [bs_length]; omega), blankEnd_end (by rw [bs_length]; omega)]
      go_roundw
      case rel =>
        unfold RWI
        repeat apply Exists.intro
        exact ⟨⟨j, f, acc, by omega, by omega, by omega, rfl, hown, hbw, by rw [He.out, Hej.out, HF]⟩, rfl⟩
      case measure => simp [rwMu, intOf]; omega
end Go.Proofs.YtjmbkkpglkbppaaDoor
/- A round of the answer's Words at a word or a name. -/
namespace Go.Proofs.YtjmbkkpglkbppaaDoor
open Go.RowKit
set_option linter.unusedVariables false

set_option maxHeartbeats 8000000 in
set_option maxRecDepth 1000000 in
theorem rw_small (s : ByteArray) (w wr : World) (K : Act → World → Prop) (k f : Nat) (acc : List (Int × Nat × Nat)) (u2 u3 u4 u5 u7 u8 u9 u10 u11 u12 u13 u14 u15 u16 u17 u18 u19 u20 u21 u22 u23 u24 u25 u26 u27 u28 u29 u30 u31 u32 u33 u34 u35 u36 u37 u38 u39 u40 u41 u42 u43 u44 u45 u46 u47 u48 u49 u50 u51 u52 u53 u54 u55 u56 u57 u58 u59 u60 u61 u62 u63 u64 u65 u66 u67 u68 u69 u70 u71 u72 u73 u74 u75 u76 u77 u78 u79 u80 u81 u82 u83 u84 u85 u86 u87 u88 u89 u90 u91 u92 u93 u94 u95 u96 u97 u98 u99 u100 u101 u102 u103 u104 u105 u106 u107 u108 u109 u110 u111 u112 u113 u114 u115 u116 u117 u118 u119 u120 u121 u122 u123 u124 u125 u126 u127 u128 u129 u130 u131 u132 u133 u134 u135 u136 u137 u138 u139 u140 u141 u142 u143 u144 u145 u146 u147 u148 u149 u150 u151 u152 u153 u154 u155 u156 u157 u158 u159 u160 u161 u162 u163 u164 u165 u166 u167 u168 u169 u170 u171 : Value) (hs : s.size ≤ 1000000) (hk : k ≤ s.size) (hacc : acc.length ≤ k) (hf : s.size < f + k)
    (hown : wr.ownsRow w.heap.size 45 4 u5 acc.length (toksCells s acc)) (hbw : Below w.heap.size w wr) (He : Hid (wordsE (bs s) = wordsA (bs s) f (blankEnd false (bs s) k) acc)) (hlt : k < s.size) (hbl' : blankB (s[k].toNat : Int) = false) (h35 : ¬ (s[k].toNat : Int) = 35) (hsm : smallB (s[k].toNat : Int) = true) :
    Code.wp Tryd.prog rwBody (Exit.then (fun a' w' => RWI s w a' w' ∧ rwMu s a' < rwMu s ⟨#[.string s, undef, u2, u3, u4, u5, .int .i64 k, u7, u8, u9, u10, u11, u12, u13, u14, u15, u16, u17, u18, u19, u20, u21, u22, u23, u24, u25, u26, u27, u28, u29, u30, u31, u32, u33, u34, u35, u36, u37, u38, u39, u40, u41, u42, u43, u44, u45, u46, u47, u48, u49, u50, u51, u52, u53, u54, u55, u56, u57, u58, u59, u60, u61, u62, u63, u64, u65, u66, u67, u68, u69, u70, u71, u72, u73, u74, u75, u76, u77, u78, u79, u80, u81, u82, u83, u84, u85, u86, u87, u88, u89, u90, u91, u92, u93, u94, u95, u96, u97, u98, u99, u100, u101, u102, u103, u104, u105, u106, u107, u108, u109, u110, u111, u112, u113, u114, u115, u116, u117, u118, u119, u120, u121, u122, u123, u124, u125, u126, u127, u128, u129, u130, u131, u132, u133, u134, u135, u136, u137, u138, u139, u140, u141, u142, u143, u144, u145, u146, u147, u148, u149, u150, u151, u152, u153, u154, u155, u156, u157, u158, u159, u160, u161, u162, u163, u164, u165, u166, u167, u168, u169, u170, u171, undef, undef, undef, undef, undef, undef, undef, undef, undef], []⟩) (Exit.inBlock 0 (Exit.then K (bodyPost Tryd.prog Tryd.f13 (WordsPost s w))))) ⟨#[.string s, undef, u2, u3, u4, u5, .int .i64 k, u7, u8, u9, u10, u11, u12, u13, u14, u15, u16, u17, u18, u19, u20, u21, u22, u23, u24, u25, u26, u27, u28, u29, u30, u31, u32, u33, u34, u35, u36, u37, u38, u39, u40, u41, u42, u43, u44, u45, u46, u47, u48, u49, u50, u51, u52, u53, u54, u55, u56, u57, u58, u59, u60, u61, u62, u63, u64, u65, u66, u67, u68, u69, u70, u71, u72, u73, u74, u75, u76, u77, u78, u79, u80, u81, u82, u83, u84, u85, u86, u87, u88, u89, u90, u91, u92, u93, u94, u95, u96, u97, u98, u99, u100, u101, u102, u103, u104, u105, u106, u107, u108, u109, u110, u111, u112, u113, u114, u115, u116, u117, u118, u119, u120, u121, u122, u123, u124, u125, u126, u127, u128, u129, u130, u131, u132, u133, u134, u135, u136, u137, u138, u139, u140, u141, u142, u143, u144, u145, u146, u147, u148, u149, u150, u151, u152, u153, u154, u155, u156, u157, u158, u159, u160, u161, u162, u163, u164, u165, u166, u167, u168, u169, u170, u171, undef, undef, undef, undef, undef, undef, undef, undef, undef], []⟩ wr := by
  obtain ⟨i0, hi, hz0, hz1, hz2⟩ := info_parts tokInfo
  have hg := bs_get s k hlt
  have hll : k < (bs s).length := by rw [bs_length]; exact hlt
  conv => arg 2; whnf
  have n1 : ((s[k].toNat : Int) == 32) = false := by unfold blankB at hbl'; simp at hbl'; simp; omega
  have n2 : ((s[k].toNat : Int) == 9) = false := by unfold blankB at hbl'; simp at hbl'; simp; omega
  have n3 : ((s[k].toNat : Int) == 10) = false := by unfold blankB at hbl'; simp at hbl'; simp; omega
  have n4 : ((s[k].toNat : Int) == 13) = false := by unfold blankB at hbl'; simp at hbl'; simp; omega
  have HB : Hid (blankEnd false (bs s) k = k) := blankEnd_token hll (by rw [hg]; exact hbl') (by rw [hg]; exact h35)
  have e35 : ((s[k].toNat : Int) == 35) = false := by simpa using h35
  have hat := at_bs s k hlt
  clear h35 hbl' hg
  have HTt : Hid (tokenT (bs s) k = wordT (bs s) k) := by
    show tokenT (bs s) k = wordT (bs s) k
    unfold tokenT; rw [if_pos (by rw [hat]; exact hsm)]
  have HE : Hid (endAt innerB (bs s) k = endAt innerB (bs s) (k + 1)) := endAt_go hll (by rw [← at_get _ _ hll, hat]; simp [innerB, hsm])
  clear hat hll
  go_wp2_with (go_at_call 21; refine (rLetter_any _ _).mono ?_; rintro e w' ⟨rfl, rfl⟩)
  go_loop [8] (fun t => ∃ j : Nat, k < j ∧ j ≤ s.size ∧ t = .int .i64 j ∧ endAt innerB (bs s) k = endAt innerB (bs s) j) (fun t => s.size - (intOf t).toNat)
  case atStart => exact ⟨k + 1, by omega, by omega, by go_num, HE.out⟩
  case round =>
    obtain ⟨j, hkj, hjs, rfl, hej⟩ := hrel
    have Hej := Lib.hid hej
    clear hej
    by_cases hin : ∃ h : j < s.size, innerB (s[j].toNat : Int) = true
    · obtain ⟨hj, hp⟩ := hin
      have HJ : Hid (endAt innerB (bs s) j = endAt innerB (bs s) (j + 1)) := endAt_go (by rw [bs_length]; exact hj) (by rw [bs_get s j hj]; exact hp)
      go_wp2_with (go_at_call 22; refine (rInner_any _ _).mono ?_; rintro e w' ⟨rfl, rfl⟩)
      go_round
      case rel => exact ⟨j + 1, by omega, by omega, by go_num, Hej.out.trans HJ.out⟩
      case measure => simp [intOf]; omega
    · have HJ : Hid (endAt innerB (bs s) k = j) := by
        show endAt innerB (bs s) k = j
        rw [Hej.out]
        rcases Nat.lt_or_ge j s.size with hj | hj
        · have : innerB (s[j].toNat : Int) = false := by
            rcases h : innerB (s[j].toNat : Int) with _ | _
            · rfl
            · exact absurd ⟨hj, h⟩ hin
          exact endAt_stop (by rw [bs_length]; exact hj) (by rw [bs_get s j hj]; exact this)
        · exact endAt_end (by rw [bs_length]; exact hj)
      clear Hej HE
      have hw : wordT (bs s) k = (if kwB (bs (s.extract k j)) = true then (3, j, 0) else if 20 < j - k then (0, 0, 2) else (1, j, 0)) := by
        rw [bs_extract]
        unfold wordT; rw [HJ.out]
      have HW := Lib.hid hw
      clear hw
      have hkk : (∃ h : j < s.size, innerB (s[j].toNat : Int) = false) ∨ ¬ j < s.size := by
        rcases Nat.lt_or_ge j s.size with h | h
        · refine .inl ⟨h, ?_⟩
          rcases h' : innerB (s[j].toNat : Int) with _ | _
          · rfl
          · exact absurd ⟨h, h'⟩ hin
        · exact .inr (by omega)
      clear hin
      rcases hkk with ⟨hj, hf0⟩ | hf0
      all_goals
        go_wp2_with (go_at_call 22; refine (rInner_any _ _).mono ?_; rintro e w' ⟨rfl, rfl⟩)
        refine (rKeyword_any _ _).mono ?_
        rintro e w2 ⟨rfl, hb2⟩
        have hbw2 := hbw.trans (hb2.mono hbw.size)
        have hown2 := lown_below hown hb2 (Nat.le_refl _)
        have hsz := hbw2.size
        clear hown hb2 hbw
        by_cases hkw : kwB (bs (s.extract k j)) = true
        · have HT := HTt.out.trans (HW.out.trans (if_pos hkw))
          have HT' := Lib.hid HT
          clear HT HW HTt
          go_wp2_with (at_builtin; refine wpList_append_own _ rfl (.tmp 159) (.tmp 169) 22 rfl w.heap.size 45 i0 _ 4 40 Tryd.underlying22 hi hz0 hz1 hz2 rfl (by decide) _ acc.length (toksCells s acc) rfl (hown2.alloc _) ⟨w2.heap.size, 0, none⟩ 1 1 [_, _, _, _] rfl rfl (cells_new w2 _ _) (one4 _ _ _ _) (by unfold maxLen; omega) (by omega) (by simp; omega) ?_; intro v1 w1 hown1 hg1 _)
          have hb3 : Below w.heap.size w w1 := (hbw2.alloc hsz _).grown hg1 (by simp; omega) (fun b hb => (hown2.lt b hb).1)
          go_wp2_with fail
          go_roundw
          case rel =>
            unfold RWI
            repeat apply Exists.intro
            exact ⟨rw_step hlt hacc hf He HB HT'.out rfl hown1 hb3, rfl⟩
          case measure => simp [rwMu, intOf]; omega
        · have hkw' : kwB (bs (s.extract k j)) = false := by simpa using hkw
          have HT1 := HTt.out.trans (HW.out.trans (if_neg hkw))
          clear hkw
          by_cases h20 : 20 < j - k
          · have HT := HT1.trans (if_pos h20)
            have HT' := Lib.hid HT
            have h20' : (20 : Int) < (j : Int) - (k : Int) := by omega
            clear HT HT1 HW HTt
            go_wp2_with fail
            go_ret3
            exact rw_bad hlt hf He HB HT'.out (by decide) rfl rfl hbw2
          · have HT := HT1.trans (if_neg h20)
            have HT' := Lib.hid HT
            have h20' : ¬ (20 : Int) < (j : Int) - (k : Int) := by omega
            clear HT HT1 HW HTt
            go_wp2_with (at_builtin; refine wpList_append_own _ rfl (.tmp 159) (.tmp 169) 22 rfl w.heap.size 45 i0 _ 4 40 Tryd.underlying22 hi hz0 hz1 hz2 rfl (by decide) _ acc.length (toksCells s acc) rfl (hown2.alloc _) ⟨w2.heap.size, 0, none⟩ 1 1 [_, _, _, _] rfl rfl (cells_new w2 _ _) (one4 _ _ _ _) (by unfold maxLen; omega) (by omega) (by simp; omega) ?_; intro v1 w1 hown1 hg1 _)
            have hb3 : Below w.heap.size w w1 := (hbw2.alloc hsz _).grown hg1 (by simp; omega) (fun b hb => (hown2.lt b hb).1)
            go_wp2_with fail
            go_roundw
            case rel =>
              unfold RWI
              repeat apply Exists.intro
              exact ⟨rw_step hlt hacc hf He HB HT'.out rfl hown1 hb3, rfl⟩
            case measure => simp [rwMu, intOf]; omega
end Go.Proofs.YtjmbkkpglkbppaaDoor
/- A round of the answer's Words at a number. -/
namespace Go.Proofs.YtjmbkkpglkbppaaDoor
open Go.RowKit
set_option linter.unusedVariables false

set_option maxHeartbeats 8000000 in
set_option maxRecDepth 1000000 in
theorem rw_digit (s : ByteArray) (w wr : World) (K : Act → World → Prop) (k f : Nat) (acc : List (Int × Nat × Nat)) (u2 u3 u4 u5 u7 u8 u9 u10 u11 u12 u13 u14 u15 u16 u17 u18 u19 u20 u21 u22 u23 u24 u25 u26 u27 u28 u29 u30 u31 u32 u33 u34 u35 u36 u37 u38 u39 u40 u41 u42 u43 u44 u45 u46 u47 u48 u49 u50 u51 u52 u53 u54 u55 u56 u57 u58 u59 u60 u61 u62 u63 u64 u65 u66 u67 u68 u69 u70 u71 u72 u73 u74 u75 u76 u77 u78 u79 u80 u81 u82 u83 u84 u85 u86 u87 u88 u89 u90 u91 u92 u93 u94 u95 u96 u97 u98 u99 u100 u101 u102 u103 u104 u105 u106 u107 u108 u109 u110 u111 u112 u113 u114 u115 u116 u117 u118 u119 u120 u121 u122 u123 u124 u125 u126 u127 u128 u129 u130 u131 u132 u133 u134 u135 u136 u137 u138 u139 u140 u141 u142 u143 u144 u145 u146 u147 u148 u149 u150 u151 u152 u153 u154 u155 u156 u157 u158 u159 u160 u161 u162 u163 u164 u165 u166 u167 u168 u169 u170 u171 : Value) (hs : s.size ≤ 1000000) (hk : k ≤ s.size) (hacc : acc.length ≤ k) (hf : s.size < f + k)
    (hown : wr.ownsRow w.heap.size 45 4 u5 acc.length (toksCells s acc)) (hbw : Below w.heap.size w wr) (He : Hid (wordsE (bs s) = wordsA (bs s) f (blankEnd false (bs s) k) acc)) (hlt : k < s.size) (hbl' : blankB (s[k].toNat : Int) = false) (h35 : ¬ (s[k].toNat : Int) = 35) (hsm : ¬ smallB (s[k].toNat : Int) = true) (hdg : digitB (s[k].toNat : Int) = true) :
    Code.wp Tryd.prog rwBody (Exit.then (fun a' w' => RWI s w a' w' ∧ rwMu s a' < rwMu s ⟨#[.string s, undef, u2, u3, u4, u5, .int .i64 k, u7, u8, u9, u10, u11, u12, u13, u14, u15, u16, u17, u18, u19, u20, u21, u22, u23, u24, u25, u26, u27, u28, u29, u30, u31, u32, u33, u34, u35, u36, u37, u38, u39, u40, u41, u42, u43, u44, u45, u46, u47, u48, u49, u50, u51, u52, u53, u54, u55, u56, u57, u58, u59, u60, u61, u62, u63, u64, u65, u66, u67, u68, u69, u70, u71, u72, u73, u74, u75, u76, u77, u78, u79, u80, u81, u82, u83, u84, u85, u86, u87, u88, u89, u90, u91, u92, u93, u94, u95, u96, u97, u98, u99, u100, u101, u102, u103, u104, u105, u106, u107, u108, u109, u110, u111, u112, u113, u114, u115, u116, u117, u118, u119, u120, u121, u122, u123, u124, u125, u126, u127, u128, u129, u130, u131, u132, u133, u134, u135, u136, u137, u138, u139, u140, u141, u142, u143, u144, u145, u146, u147, u148, u149, u150, u151, u152, u153, u154, u155, u156, u157, u158, u159, u160, u161, u162, u163, u164, u165, u166, u167, u168, u169, u170, u171, undef, undef, undef, undef, undef, undef, undef, undef, undef], []⟩) (Exit.inBlock 0 (Exit.then K (bodyPost Tryd.prog Tryd.f13 (WordsPost s w))))) ⟨#[.string s, undef, u2, u3, u4, u5, .int .i64 k, u7, u8, u9, u10, u11, u12, u13, u14, u15, u16, u17, u18, u19, u20, u21, u22, u23, u24, u25, u26, u27, u28, u29, u30, u31, u32, u33, u34, u35, u36, u37, u38, u39, u40, u41, u42, u43, u44, u45, u46, u47, u48, u49, u50, u51, u52, u53, u54, u55, u56, u57, u58, u59, u60, u61, u62, u63, u64, u65, u66, u67, u68, u69, u70, u71, u72, u73, u74, u75, u76, u77, u78, u79, u80, u81, u82, u83, u84, u85, u86, u87, u88, u89, u90, u91, u92, u93, u94, u95, u96, u97, u98, u99, u100, u101, u102, u103, u104, u105, u106, u107, u108, u109, u110, u111, u112, u113, u114, u115, u116, u117, u118, u119, u120, u121, u122, u123, u124, u125, u126, u127, u128, u129, u130, u131, u132, u133, u134, u135, u136, u137, u138, u139, u140, u141, u142, u143, u144, u145, u146, u147, u148, u149, u150, u151, u152, u153, u154, u155, u156, u157, u158, u159, u160, u161, u162, u163, u164, u165, u166, u167, u168, u169, u170, u171, undef, undef, undef, undef, undef, undef, undef, undef, undef], []⟩ wr := by
  obtain ⟨i0, hi, hz0, hz1, hz2⟩ := info_parts tokInfo
  have hg := bs_get s k hlt
  have hll : k < (bs s).length := by rw [bs_length]; exact hlt
  conv => arg 2; whnf
  have n1 : ((s[k].toNat : Int) == 32) = false := by unfold blankB at hbl'; simp at hbl'; simp; omega
  have n2 : ((s[k].toNat : Int) == 9) = false := by unfold blankB at hbl'; simp at hbl'; simp; omega
  have n3 : ((s[k].toNat : Int) == 10) = false := by unfold blankB at hbl'; simp at hbl'; simp; omega
  have n4 : ((s[k].toNat : Int) == 13) = false := by unfold blankB at hbl'; simp at hbl'; simp; omega
  have HB : Hid (blankEnd false (bs s) k = k) := blankEnd_token hll (by rw [hg]; exact hbl') (by rw [hg]; exact h35)
  have e35 : ((s[k].toNat : Int) == 35) = false := by simpa using h35
  have hat := at_bs s k hlt
  clear h35 hbl' hg
  have hsm' : smallB (s[k].toNat : Int) = false := by simpa using hsm
  clear hsm
  have hsz := hbw.size
  have HTt : Hid (tokenT (bs s) k = numberT (bs s) k) := by
    show tokenT (bs s) k = numberT (bs s) k
    unfold tokenT; rw [hat, if_neg (by simp [hsm']), if_pos hdg]
  have HE : Hid (endAt digitB (bs s) k = endAt digitB (bs s) (k + 1)) := endAt_go hll (by rw [← at_get _ _ hll, hat]; exact hdg)
  have Hat := Lib.hid hat
  clear hat hll
  go_wp2_with (first | (go_at_call 21; refine (rLetter_any _ _).mono ?_; rintro e w' ⟨rfl, rfl⟩) | (go_at_call 24; refine (rDigit_any _ _).mono ?_; rintro e w' ⟨rfl, rfl⟩))
  go_loop [8] (fun t => ∃ j : Nat, k < j ∧ j ≤ s.size ∧ t = .int .i64 j ∧ endAt digitB (bs s) k = endAt digitB (bs s) j) (fun t => s.size - (intOf t).toNat)
  case atStart => exact ⟨k + 1, by omega, by omega, by go_num, HE.out⟩
  case round =>
    obtain ⟨j, hkj, hjs, rfl, hej⟩ := hrel
    have Hej := Lib.hid hej
    clear hej
    by_cases hin : ∃ h : j < s.size, digitB (s[j].toNat : Int) = true
    · obtain ⟨hj, hp⟩ := hin
      have HJ : Hid (endAt digitB (bs s) j = endAt digitB (bs s) (j + 1)) := endAt_go (by rw [bs_length]; exact hj) (by rw [bs_get s j hj]; exact hp)
      go_wp2_with (go_at_call 24; refine (rDigit_any _ _).mono ?_; rintro e w' ⟨rfl, rfl⟩)
      go_round
      case rel => exact ⟨j + 1, by omega, by omega, by go_num, Hej.out.trans HJ.out⟩
      case measure => simp [intOf]; omega
    · have HJ : Hid (endAt digitB (bs s) k = j) := by
        show endAt digitB (bs s) k = j
        rw [Hej.out]
        rcases Nat.lt_or_ge j s.size with hj | hj
        · have : digitB (s[j].toNat : Int) = false := by
            rcases h : digitB (s[j].toNat : Int) with _ | _
            · rfl
            · exact absurd ⟨hj, h⟩ hin
          exact endAt_stop (by rw [bs_length]; exact hj) (by rw [bs_get s j hj]; exact this)
        · exact endAt_end (by rw [bs_length]; exact hj)
      clear Hej HE
      have HW : Hid (tokenT (bs s) k = numR (((s[k].toNat : Int) == 48 && decide (k + 1 < j)) || (decide (j < s.size) && (smallB (at_ (bs s) j) || at_ (bs s) j == 95))) k j) := by
        have h1 := numberT_eq (bs s) k j HJ.out.symm
        rw [Hat.out, bs_length] at h1
        exact HTt.out.trans h1
      clear HTt
      have hgt : Hid (decide (k + 1 < j) = decide ((k : Int) + 1 < (j : Int))) := decide_eq_decide.2 (by omega)
      have hkk : (∃ h : j < s.size, digitB (s[j].toNat : Int) = false ∧ innerB (s[j].toNat : Int) = true ∧ Hid ((smallB (at_ (bs s) j) || at_ (bs s) j == 95) = true)) ∨ (∃ h : j < s.size, digitB (s[j].toNat : Int) = false ∧ innerB (s[j].toNat : Int) = false ∧ Hid ((smallB (at_ (bs s) j) || at_ (bs s) j == 95) = false)) ∨ ¬ j < s.size := by
        rcases Nat.lt_or_ge j s.size with h | h
        · have hdj : digitB (s[j].toNat : Int) = false := by
            rcases h' : digitB (s[j].toNat : Int) with _ | _
            · rfl
            · exact absurd ⟨h, h'⟩ hin
          have hi2 : innerB (s[j].toNat : Int) = (smallB (at_ (bs s) j) || at_ (bs s) j == 95) := by
            rw [at_bs s j h]; unfold innerB; rw [hdj]; simp
          rcases h' : innerB (s[j].toNat : Int) with _ | _
          · exact .inr (.inl ⟨h, hdj, h', hi2.symm.trans h'⟩)
          · exact .inl ⟨h, hdj, h', hi2.symm.trans h'⟩
        · exact .inr (.inr (by omega))
      clear hin
      by_cases hbig : ((s[k].toNat : Int) == 48) = true ∧ (k : Int) + 1 < (j : Int)
      · obtain ⟨hb1, hb2⟩ := hbig
        have HT : Hid (tokenT (bs s) k = (0, 0, 3)) := by
          refine HW.out.trans ?_
          rw [hgt.out, hb1, decide_eq_true hb2]; rfl
        clear HW hgt
        rcases hkk with ⟨hj, hf0, hf1, _⟩ | ⟨hj, hf0, hf1, _⟩ | hf0
        all_goals
          go_wp2_with (first | (go_at_call 22; refine (rInner_any _ _).mono ?_; rintro e w' ⟨rfl, rfl⟩) | (go_at_call 24; refine (rDigit_any _ _).mono ?_; rintro e w' ⟨rfl, rfl⟩))
          go_ret3
          exact rw_bad hlt hf He HB HT.out (by decide) rfl rfl hbw
      · have hbig' : ((s[k].toNat : Int) == 48) = false ∨ (((s[k].toNat : Int) == 48) = true ∧ ¬ (k : Int) + 1 < (j : Int)) := by
          rcases h : ((s[k].toNat : Int) == 48) with _ | _
          · exact .inl rfl
          · exact .inr ⟨rfl, fun h' => hbig ⟨h, h'⟩⟩
        have HW2 : Hid (tokenT (bs s) k = numR (decide (j < s.size) && (smallB (at_ (bs s) j) || at_ (bs s) j == 95)) k j) := by
          refine HW.out.trans ?_
          rw [hgt.out]
          rcases hbig' with h | ⟨_, h⟩
          · rw [h]; rfl
          · rw [decide_eq_false h]; simp
        clear hbig HW hgt
        rcases hkk with ⟨hj, hf0, hf1, hf2⟩ | hkk
        · have HT : Hid (tokenT (bs s) k = (0, 0, 3)) := by
            refine HW2.out.trans ?_
            rw [hf2.out, decide_eq_true hj]; rfl
          clear hf2 HW2
          rcases hbig' with h1 | ⟨h1, h2⟩
          all_goals
            go_wp2_with (first | (go_at_call 22; refine (rInner_any _ _).mono ?_; rintro e w' ⟨rfl, rfl⟩) | (go_at_call 24; refine (rDigit_any _ _).mono ?_; rintro e w' ⟨rfl, rfl⟩))
            go_ret3
            exact rw_bad hlt hf He HB HT.out (by decide) rfl rfl hbw
        · have HT : Hid (tokenT (bs s) k = numR false k j) := by
            refine HW2.out.trans ?_
            rcases hkk with ⟨hj, _, _, hf2⟩ | h
            · rw [hf2.out]; simp
            · rw [decide_eq_false h]; rfl
          have hkk2 : (∃ h : j < s.size, digitB (s[j].toNat : Int) = false ∧ innerB (s[j].toNat : Int) = false) ∨ ¬ j < s.size := by
            rcases hkk with ⟨hj, h1, h2, _⟩ | h
            · exact .inl ⟨hj, h1, h2⟩
            · exact .inr h
          clear hkk HW2
          by_cases h9 : 9 < j - k
          · have HT2 : Hid (tokenT (bs s) k = (0, 0, 2)) := by
              refine HT.out.trans ?_
              unfold numR; rw [if_neg (by simp), if_pos h9]
            have h9' : (9 : Int) < (j : Int) - (k : Int) := by omega
            clear HT
            have h1 : ((s[k].toNat : Int) == 48) = false := by
              rcases hbig' with h | ⟨_, h⟩
              · exact h
              · omega
            clear hbig'
            rcases hkk2 with ⟨hj, hf0, hf1⟩ | hf0
            all_goals
              go_wp2_with (first | (go_at_call 22; refine (rInner_any _ _).mono ?_; rintro e w' ⟨rfl, rfl⟩) | (go_at_call 24; refine (rDigit_any _ _).mono ?_; rintro e w' ⟨rfl, rfl⟩))
              go_ret3
              exact rw_bad hlt hf He HB HT2.out (by decide) rfl rfl hbw
          · have HT2 : Hid (tokenT (bs s) k = (2, j, 0)) := by
              refine HT.out.trans ?_
              unfold numR; rw [if_neg (by simp), if_neg h9]
            have h9' : ¬ (9 : Int) < (j : Int) - (k : Int) := by omega
            clear HT
            rcases hbig' with h1 | ⟨h1, h2⟩ <;> rcases hkk2 with ⟨hj, hf0, hf1⟩ | hf0
            all_goals
              go_wp2_with (first | (go_at_call 22; refine (rInner_any _ _).mono ?_; rintro e w' ⟨rfl, rfl⟩) | (go_at_call 24; refine (rDigit_any _ _).mono ?_; rintro e w' ⟨rfl, rfl⟩) | (at_builtin; refine wpList_append_own _ rfl (.tmp 159) (.tmp 169) 22 rfl w.heap.size 45 i0 _ 4 40 Tryd.underlying22 hi hz0 hz1 hz2 rfl (by decide) _ acc.length (toksCells s acc) rfl (hown.alloc _) ⟨wr.heap.size, 0, none⟩ 1 1 [_, _, _, _] rfl rfl (cells_new wr _ _) (one4 _ _ _ _) (by unfold maxLen; omega) (by omega) (by simp; omega) ?_; intro v1 w1 hown1 hg1 _))
              have hb3 : Below w.heap.size w w1 := (hbw.alloc hsz _).grown hg1 (by simp; omega) (fun b hb => (hown.lt b hb).1)
              go_wp2_with fail
              go_roundw
              case rel =>
                unfold RWI
                repeat apply Exists.intro
                exact ⟨rw_step hlt hacc hf He HB HT2.out rfl hown1 hb3, rfl⟩
              case measure => simp [rwMu, intOf]; omega
end Go.Proofs.YtjmbkkpglkbppaaDoor
/- A round of the answer's Words at a sign, and at any other byte. -/
namespace Go.Proofs.YtjmbkkpglkbppaaDoor
open Go.RowKit
set_option linter.unusedVariables false

set_option maxHeartbeats 8000000 in
set_option maxRecDepth 1000000 in
theorem rw_sign (s : ByteArray) (w wr : World) (K : Act → World → Prop) (k f : Nat) (acc : List (Int × Nat × Nat)) (u2 u3 u4 u5 u7 u8 u9 u10 u11 u12 u13 u14 u15 u16 u17 u18 u19 u20 u21 u22 u23 u24 u25 u26 u27 u28 u29 u30 u31 u32 u33 u34 u35 u36 u37 u38 u39 u40 u41 u42 u43 u44 u45 u46 u47 u48 u49 u50 u51 u52 u53 u54 u55 u56 u57 u58 u59 u60 u61 u62 u63 u64 u65 u66 u67 u68 u69 u70 u71 u72 u73 u74 u75 u76 u77 u78 u79 u80 u81 u82 u83 u84 u85 u86 u87 u88 u89 u90 u91 u92 u93 u94 u95 u96 u97 u98 u99 u100 u101 u102 u103 u104 u105 u106 u107 u108 u109 u110 u111 u112 u113 u114 u115 u116 u117 u118 u119 u120 u121 u122 u123 u124 u125 u126 u127 u128 u129 u130 u131 u132 u133 u134 u135 u136 u137 u138 u139 u140 u141 u142 u143 u144 u145 u146 u147 u148 u149 u150 u151 u152 u153 u154 u155 u156 u157 u158 u159 u160 u161 u162 u163 u164 u165 u166 u167 u168 u169 u170 u171 : Value) (hs : s.size ≤ 1000000) (hk : k ≤ s.size) (hacc : acc.length ≤ k) (hf : s.size < f + k)
    (hown : wr.ownsRow w.heap.size 45 4 u5 acc.length (toksCells s acc)) (hbw : Below w.heap.size w wr) (He : Hid (wordsE (bs s) = wordsA (bs s) f (blankEnd false (bs s) k) acc)) (hlt : k < s.size) (hbl' : blankB (s[k].toNat : Int) = false) (h35 : ¬ (s[k].toNat : Int) = 35) (hsm : ¬ smallB (s[k].toNat : Int) = true) (hdg : ¬ digitB (s[k].toNat : Int) = true) :
    Code.wp Tryd.prog rwBody (Exit.then (fun a' w' => RWI s w a' w' ∧ rwMu s a' < rwMu s ⟨#[.string s, undef, u2, u3, u4, u5, .int .i64 k, u7, u8, u9, u10, u11, u12, u13, u14, u15, u16, u17, u18, u19, u20, u21, u22, u23, u24, u25, u26, u27, u28, u29, u30, u31, u32, u33, u34, u35, u36, u37, u38, u39, u40, u41, u42, u43, u44, u45, u46, u47, u48, u49, u50, u51, u52, u53, u54, u55, u56, u57, u58, u59, u60, u61, u62, u63, u64, u65, u66, u67, u68, u69, u70, u71, u72, u73, u74, u75, u76, u77, u78, u79, u80, u81, u82, u83, u84, u85, u86, u87, u88, u89, u90, u91, u92, u93, u94, u95, u96, u97, u98, u99, u100, u101, u102, u103, u104, u105, u106, u107, u108, u109, u110, u111, u112, u113, u114, u115, u116, u117, u118, u119, u120, u121, u122, u123, u124, u125, u126, u127, u128, u129, u130, u131, u132, u133, u134, u135, u136, u137, u138, u139, u140, u141, u142, u143, u144, u145, u146, u147, u148, u149, u150, u151, u152, u153, u154, u155, u156, u157, u158, u159, u160, u161, u162, u163, u164, u165, u166, u167, u168, u169, u170, u171, undef, undef, undef, undef, undef, undef, undef, undef, undef], []⟩) (Exit.inBlock 0 (Exit.then K (bodyPost Tryd.prog Tryd.f13 (WordsPost s w))))) ⟨#[.string s, undef, u2, u3, u4, u5, .int .i64 k, u7, u8, u9, u10, u11, u12, u13, u14, u15, u16, u17, u18, u19, u20, u21, u22, u23, u24, u25, u26, u27, u28, u29, u30, u31, u32, u33, u34, u35, u36, u37, u38, u39, u40, u41, u42, u43, u44, u45, u46, u47, u48, u49, u50, u51, u52, u53, u54, u55, u56, u57, u58, u59, u60, u61, u62, u63, u64, u65, u66, u67, u68, u69, u70, u71, u72, u73, u74, u75, u76, u77, u78, u79, u80, u81, u82, u83, u84, u85, u86, u87, u88, u89, u90, u91, u92, u93, u94, u95, u96, u97, u98, u99, u100, u101, u102, u103, u104, u105, u106, u107, u108, u109, u110, u111, u112, u113, u114, u115, u116, u117, u118, u119, u120, u121, u122, u123, u124, u125, u126, u127, u128, u129, u130, u131, u132, u133, u134, u135, u136, u137, u138, u139, u140, u141, u142, u143, u144, u145, u146, u147, u148, u149, u150, u151, u152, u153, u154, u155, u156, u157, u158, u159, u160, u161, u162, u163, u164, u165, u166, u167, u168, u169, u170, u171, undef, undef, undef, undef, undef, undef, undef, undef, undef], []⟩ wr := by
  obtain ⟨i0, hi, hz0, hz1, hz2⟩ := info_parts tokInfo
  have hg := bs_get s k hlt
  have hll : k < (bs s).length := by rw [bs_length]; exact hlt
  conv => arg 2; whnf
  have n1 : ((s[k].toNat : Int) == 32) = false := by unfold blankB at hbl'; simp at hbl'; simp; omega
  have n2 : ((s[k].toNat : Int) == 9) = false := by unfold blankB at hbl'; simp at hbl'; simp; omega
  have n3 : ((s[k].toNat : Int) == 10) = false := by unfold blankB at hbl'; simp at hbl'; simp; omega
  have n4 : ((s[k].toNat : Int) == 13) = false := by unfold blankB at hbl'; simp at hbl'; simp; omega
  have HB : Hid (blankEnd false (bs s) k = k) := blankEnd_token hll (by rw [hg]; exact hbl') (by rw [hg]; exact h35)
  have e35 : ((s[k].toNat : Int) == 35) = false := by simpa using h35
  have hat := at_bs s k hlt
  clear h35 hbl' hg
  have hsm' : smallB (s[k].toNat : Int) = false := by simpa using hsm
  clear hsm
  have hsz := hbw.size
  have hdg' : digitB (s[k].toNat : Int) = false := by simpa using hdg
  clear hdg
  have HTt : Hid (tokenT (bs s) k = signT (bs s) k) := by
    show tokenT (bs s) k = signT (bs s) k
    unfold tokenT; rw [hat, if_neg (by simp [hsm']), if_neg (by simp [hdg'])]
  by_cases h45 : ((s[k].toNat : Int) == 45) = true
  · have hns : signB (s[k].toNat : Int) = false := by
      simp at h45; rw [h45]; rfl
    have hn : (∃ h : k + 1 < s.size, ((s[k + 1].toNat : Int) != 62) = false ∧ Hid (tokenT (bs s) k = (4, k + 2, 0))) ∨ (∃ h : k + 1 < s.size, ((s[k + 1].toNat : Int) != 62) = true ∧ Hid (tokenT (bs s) k = (0, 0, 3))) ∨ (¬ k + 1 < s.size ∧ Hid (tokenT (bs s) k = (0, 0, 3))) := by
      rcases Nat.lt_or_ge (k + 1) s.size with h | h
      · have h1 := at_bs s (k + 1) h
        rcases h' : ((s[k + 1].toNat : Int) != 62) with _ | _
        · refine .inl ⟨h, h', HTt.out.trans ?_⟩
          unfold signT; rw [hat, h1, hns, h45]
          simp at h'
          rw [h']; rfl
        · refine .inr (.inl ⟨h, h', HTt.out.trans ?_⟩)
          unfold signT; rw [hat, h1, hns, h45]
          have : ((s[k + 1].toNat : Int) == 62) = false := by simpa using h'
          rw [this]; rfl
      · refine .inr (.inr ⟨by omega, HTt.out.trans ?_⟩)
        unfold signT; rw [hat, at_none _ (k + 1) (by rw [bs_length]; exact h), hns, h45]; rfl
    clear hat HTt hll
    rcases hn with ⟨hj, hf0, HT⟩ | ⟨hj, hf0, HT⟩ | ⟨hj, HT⟩
    · have hj2 : (k : Int) + 1 < (s.size : Int) := by omega
      go_wp2_with (first | (go_at_call 21; refine (rLetter_any _ _).mono ?_; rintro e w' ⟨rfl, rfl⟩) | (go_at_call 24; refine (rDigit_any _ _).mono ?_; rintro e w' ⟨rfl, rfl⟩) | (at_builtin; refine wpList_append_own _ rfl (.tmp 159) (.tmp 169) 22 rfl w.heap.size 45 i0 _ 4 40 Tryd.underlying22 hi hz0 hz1 hz2 rfl (by decide) _ acc.length (toksCells s acc) rfl (hown.alloc _) ⟨wr.heap.size, 0, none⟩ 1 1 [_, _, _, _] rfl rfl (cells_new wr _ _) (one4 _ _ _ _) (by unfold maxLen; omega) (by omega) (by simp; omega) ?_; intro v1 w1 hown1 hg1 _))
      have hb3 : Below w.heap.size w w1 := (hbw.alloc hsz _).grown hg1 (by simp; omega) (fun b hb => (hown.lt b hb).1)
      go_wp2_with fail
      go_roundw
      case rel =>
        unfold RWI
        repeat apply Exists.intro
        exact ⟨rw_step hlt hacc hf He HB HT.out (by go_num) hown1 hb3, rfl⟩
      case measure => simp [rwMu, intOf]; omega
    · go_wp2_with (first | (go_at_call 21; refine (rLetter_any _ _).mono ?_; rintro e w' ⟨rfl, rfl⟩) | (go_at_call 24; refine (rDigit_any _ _).mono ?_; rintro e w' ⟨rfl, rfl⟩))
      go_ret3
      exact rw_bad hlt hf He HB HT.out (by decide) rfl rfl hbw
    · go_wp2_with (first | (go_at_call 21; refine (rLetter_any _ _).mono ?_; rintro e w' ⟨rfl, rfl⟩) | (go_at_call 24; refine (rDigit_any _ _).mono ?_; rintro e w' ⟨rfl, rfl⟩))
      go_ret3
      exact rw_bad hlt hf He HB HT.out (by decide) rfl rfl hbw
  · have h45' : ((s[k].toNat : Int) == 45) = false := by simpa using h45
    clear h45
    by_cases hsg : signB (s[k].toNat : Int) = true
    · have HT : Hid (tokenT (bs s) k = (4, k + 1, 0)) := by
        refine HTt.out.trans ?_
        unfold signT; rw [hat, if_pos hsg]
      clear hat HTt hll
      have hd : (((s[k].toNat : Int) = 40 ∨ (s[k].toNat : Int) = 41) ∨ ((s[k].toNat : Int) = 44 ∨ (s[k].toNat : Int) = 58)) ∨ ((s[k].toNat : Int) = 61 ∨ (s[k].toNat : Int) = 42) := by
        unfold signB at hsg
        simp at hsg
        omega
      clear hsg n1 n2 n3 n4 e35 h45'
      rcases hd with ((hd | hd) | (hd | hd)) | (hd | hd)
      all_goals
        rw [hd] at hsm' hdg'
        go_wp2_with (first | (go_at_call 21; refine (rLetter_any _ _).mono ?_; rintro e w' ⟨rfl, rfl⟩) | (go_at_call 24; refine (rDigit_any _ _).mono ?_; rintro e w' ⟨rfl, rfl⟩) | (at_builtin; refine wpList_append_own _ rfl (.tmp 159) (.tmp 169) 22 rfl w.heap.size 45 i0 _ 4 40 Tryd.underlying22 hi hz0 hz1 hz2 rfl (by decide) _ acc.length (toksCells s acc) rfl (hown.alloc _) ⟨wr.heap.size, 0, none⟩ 1 1 [_, _, _, _] rfl rfl (cells_new wr _ _) (one4 _ _ _ _) (by unfold maxLen; omega) (by omega) (by simp; omega) ?_; intro v1 w1 hown1 hg1 _))
        have hb3 : Below w.heap.size w w1 := (hbw.alloc hsz _).grown hg1 (by simp; omega) (fun b hb => (hown.lt b hb).1)
        go_wp2_with fail
        go_roundw
        case rel =>
          unfold RWI
          repeat apply Exists.intro
          exact ⟨rw_step hlt hacc hf He HB HT.out (by go_num) hown1 hb3, rfl⟩
        case measure => simp [rwMu, intOf]; omega
    · have HT : Hid (tokenT (bs s) k = (0, 0, 3)) := by
        refine HTt.out.trans ?_
        unfold signT; rw [hat, if_neg hsg, if_neg (by simp only [h45', Bool.false_and]; simp)]
      have m1 : ((s[k].toNat : Int) != 40) = true := by unfold signB at hsg; simp at hsg; simp; omega
      have m2 : ((s[k].toNat : Int) != 41) = true := by unfold signB at hsg; simp at hsg; simp; omega
      have m3 : ((s[k].toNat : Int) != 44) = true := by unfold signB at hsg; simp at hsg; simp; omega
      have m4 : ((s[k].toNat : Int) != 58) = true := by unfold signB at hsg; simp at hsg; simp; omega
      have m5 : ((s[k].toNat : Int) != 61) = true := by unfold signB at hsg; simp at hsg; simp; omega
      have m6 : ((s[k].toNat : Int) != 42) = true := by unfold signB at hsg; simp at hsg; simp; omega
      clear hat HTt hll hsg
      go_wp2_with (first | (go_at_call 21; refine (rLetter_any _ _).mono ?_; rintro e w' ⟨rfl, rfl⟩) | (go_at_call 24; refine (rDigit_any _ _).mono ?_; rintro e w' ⟨rfl, rfl⟩))
      go_ret3
      exact rw_bad hlt hf He HB HT.out (by decide) rfl rfl hbw
end Go.Proofs.YtjmbkkpglkbppaaDoor
/- The contract of the document's answer Words: it returns the tokens that the plain function tells, in memory of its own, or the first error. -/
namespace Go.Proofs.YtjmbkkpglkbppaaDoor
open Go.RowKit

set_option maxHeartbeats 8000000 in
set_option maxRecDepth 1000000 in
theorem rwords_any (s : ByteArray) (w : World) (hs : s.size ≤ 1000000) :
    Calls Tryd.prog 13 #[.string s] w (WordsPost s w) := by
  obtain ⟨i0, hi, hz0, hz1, hz2⟩ := info_parts tokInfo
  go_enter Tryd.func13, Tryd.ntmps13
  go_wp2_with fail
  refine wp_loop (RWI s w) (fun a _ => rwMu s a) ?_ ?_
  · unfold RWI
    repeat apply Exists.intro
    refine ⟨?_, rfl⟩
    exact ⟨0, s.size + 1, [], Nat.zero_le _, Nat.zero_le _, by omega, rfl, World.ownsRow_nil _ _ _ _, Below.refl _ _, by rw [wordsE, bs_length]⟩
  · intro a wr hI
    unfold RWI at hI
    obtain ⟨u2, hI⟩ := hI
    obtain ⟨u3, hI⟩ := hI
    obtain ⟨u4, hI⟩ := hI
    obtain ⟨u5, hI⟩ := hI
    obtain ⟨u6, hI⟩ := hI
    obtain ⟨u7, hI⟩ := hI
    obtain ⟨u8, hI⟩ := hI
    obtain ⟨u9, hI⟩ := hI
    obtain ⟨u10, hI⟩ := hI
    obtain ⟨u11, hI⟩ := hI
    obtain ⟨u12, hI⟩ := hI
    obtain ⟨u13, hI⟩ := hI
    obtain ⟨u14, hI⟩ := hI
    obtain ⟨u15, hI⟩ := hI
    obtain ⟨u16, hI⟩ := hI
    obtain ⟨u17, hI⟩ := hI
    obtain ⟨u18, hI⟩ := hI
    obtain ⟨u19, hI⟩ := hI
    obtain ⟨u20, hI⟩ := hI
    obtain ⟨u21, hI⟩ := hI
    obtain ⟨u22, hI⟩ := hI
    obtain ⟨u23, hI⟩ := hI
    obtain ⟨u24, hI⟩ := hI
    obtain ⟨u25, hI⟩ := hI
    obtain ⟨u26, hI⟩ := hI
    obtain ⟨u27, hI⟩ := hI
    obtain ⟨u28, hI⟩ := hI
    obtain ⟨u29, hI⟩ := hI
    obtain ⟨u30, hI⟩ := hI
    obtain ⟨u31, hI⟩ := hI
    obtain ⟨u32, hI⟩ := hI
    obtain ⟨u33, hI⟩ := hI
    obtain ⟨u34, hI⟩ := hI
    obtain ⟨u35, hI⟩ := hI
    obtain ⟨u36, hI⟩ := hI
    obtain ⟨u37, hI⟩ := hI
    obtain ⟨u38, hI⟩ := hI
    obtain ⟨u39, hI⟩ := hI
    obtain ⟨u40, hI⟩ := hI
    obtain ⟨u41, hI⟩ := hI
    obtain ⟨u42, hI⟩ := hI
    obtain ⟨u43, hI⟩ := hI
    obtain ⟨u44, hI⟩ := hI
    obtain ⟨u45, hI⟩ := hI
    obtain ⟨u46, hI⟩ := hI
    obtain ⟨u47, hI⟩ := hI
    obtain ⟨u48, hI⟩ := hI
    obtain ⟨u49, hI⟩ := hI
    obtain ⟨u50, hI⟩ := hI
    obtain ⟨u51, hI⟩ := hI
    obtain ⟨u52, hI⟩ := hI
    obtain ⟨u53, hI⟩ := hI
    obtain ⟨u54, hI⟩ := hI
    obtain ⟨u55, hI⟩ := hI
    obtain ⟨u56, hI⟩ := hI
    obtain ⟨u57, hI⟩ := hI
    obtain ⟨u58, hI⟩ := hI
    obtain ⟨u59, hI⟩ := hI
    obtain ⟨u60, hI⟩ := hI
    obtain ⟨u61, hI⟩ := hI
    obtain ⟨u62, hI⟩ := hI
    obtain ⟨u63, hI⟩ := hI
    obtain ⟨u64, hI⟩ := hI
    obtain ⟨u65, hI⟩ := hI
    obtain ⟨u66, hI⟩ := hI
    obtain ⟨u67, hI⟩ := hI
    obtain ⟨u68, hI⟩ := hI
    obtain ⟨u69, hI⟩ := hI
    obtain ⟨u70, hI⟩ := hI
    obtain ⟨u71, hI⟩ := hI
    obtain ⟨u72, hI⟩ := hI
    obtain ⟨u73, hI⟩ := hI
    obtain ⟨u74, hI⟩ := hI
    obtain ⟨u75, hI⟩ := hI
    obtain ⟨u76, hI⟩ := hI
    obtain ⟨u77, hI⟩ := hI
    obtain ⟨u78, hI⟩ := hI
    obtain ⟨u79, hI⟩ := hI
    obtain ⟨u80, hI⟩ := hI
    obtain ⟨u81, hI⟩ := hI
    obtain ⟨u82, hI⟩ := hI
    obtain ⟨u83, hI⟩ := hI
    obtain ⟨u84, hI⟩ := hI
    obtain ⟨u85, hI⟩ := hI
    obtain ⟨u86, hI⟩ := hI
    obtain ⟨u87, hI⟩ := hI
    obtain ⟨u88, hI⟩ := hI
    obtain ⟨u89, hI⟩ := hI
    obtain ⟨u90, hI⟩ := hI
    obtain ⟨u91, hI⟩ := hI
    obtain ⟨u92, hI⟩ := hI
    obtain ⟨u93, hI⟩ := hI
    obtain ⟨u94, hI⟩ := hI
    obtain ⟨u95, hI⟩ := hI
    obtain ⟨u96, hI⟩ := hI
    obtain ⟨u97, hI⟩ := hI
    obtain ⟨u98, hI⟩ := hI
    obtain ⟨u99, hI⟩ := hI
    obtain ⟨u100, hI⟩ := hI
    obtain ⟨u101, hI⟩ := hI
    obtain ⟨u102, hI⟩ := hI
    obtain ⟨u103, hI⟩ := hI
    obtain ⟨u104, hI⟩ := hI
    obtain ⟨u105, hI⟩ := hI
    obtain ⟨u106, hI⟩ := hI
    obtain ⟨u107, hI⟩ := hI
    obtain ⟨u108, hI⟩ := hI
    obtain ⟨u109, hI⟩ := hI
    obtain ⟨u110, hI⟩ := hI
    obtain ⟨u111, hI⟩ := hI
    obtain ⟨u112, hI⟩ := hI
    obtain ⟨u113, hI⟩ := hI
    obtain ⟨u114, hI⟩ := hI
    obtain ⟨u115, hI⟩ := hI
    obtain ⟨u116, hI⟩ := hI
    obtain ⟨u117, hI⟩ := hI
    obtain ⟨u118, hI⟩ := hI
    obtain ⟨u119, hI⟩ := hI
    obtain ⟨u120, hI⟩ := hI
    obtain ⟨u121, hI⟩ := hI
    obtain ⟨u122, hI⟩ := hI
    obtain ⟨u123, hI⟩ := hI
    obtain ⟨u124, hI⟩ := hI
    obtain ⟨u125, hI⟩ := hI
    obtain ⟨u126, hI⟩ := hI
    obtain ⟨u127, hI⟩ := hI
    obtain ⟨u128, hI⟩ := hI
    obtain ⟨u129, hI⟩ := hI
    obtain ⟨u130, hI⟩ := hI
    obtain ⟨u131, hI⟩ := hI
    obtain ⟨u132, hI⟩ := hI
    obtain ⟨u133, hI⟩ := hI
    obtain ⟨u134, hI⟩ := hI
    obtain ⟨u135, hI⟩ := hI
    obtain ⟨u136, hI⟩ := hI
    obtain ⟨u137, hI⟩ := hI
    obtain ⟨u138, hI⟩ := hI
    obtain ⟨u139, hI⟩ := hI
    obtain ⟨u140, hI⟩ := hI
    obtain ⟨u141, hI⟩ := hI
    obtain ⟨u142, hI⟩ := hI
    obtain ⟨u143, hI⟩ := hI
    obtain ⟨u144, hI⟩ := hI
    obtain ⟨u145, hI⟩ := hI
    obtain ⟨u146, hI⟩ := hI
    obtain ⟨u147, hI⟩ := hI
    obtain ⟨u148, hI⟩ := hI
    obtain ⟨u149, hI⟩ := hI
    obtain ⟨u150, hI⟩ := hI
    obtain ⟨u151, hI⟩ := hI
    obtain ⟨u152, hI⟩ := hI
    obtain ⟨u153, hI⟩ := hI
    obtain ⟨u154, hI⟩ := hI
    obtain ⟨u155, hI⟩ := hI
    obtain ⟨u156, hI⟩ := hI
    obtain ⟨u157, hI⟩ := hI
    obtain ⟨u158, hI⟩ := hI
    obtain ⟨u159, hI⟩ := hI
    obtain ⟨u160, hI⟩ := hI
    obtain ⟨u161, hI⟩ := hI
    obtain ⟨u162, hI⟩ := hI
    obtain ⟨u163, hI⟩ := hI
    obtain ⟨u164, hI⟩ := hI
    obtain ⟨u165, hI⟩ := hI
    obtain ⟨u166, hI⟩ := hI
    obtain ⟨u167, hI⟩ := hI
    obtain ⟨u168, hI⟩ := hI
    obtain ⟨u169, hI⟩ := hI
    obtain ⟨u170, hI⟩ := hI
    obtain ⟨u171, hI⟩ := hI
    obtain ⟨hrel, rfl⟩ := hI
    obtain ⟨k, f, acc, hk, hacc, hf, rfl, hown, hbw, he⟩ := hrel
    have He := Lib.hid he
    clear he
    by_cases hlt : k < s.size
    · by_cases hbl : blankB (s[k].toNat : Int) = true
      · exact rw_blank s w wr _ k f acc _ _ _ _ _ _ _ _ _ _ _ _ _ _ _ _ _ _ _ _ _ _ _ _ _ _ _ _ _ _ _ _ _ _ _ _ _ _ _ _ _ _ _ _ _ _ _ _ _ _ _ _ _ _ _ _ _ _ _ _ _ _ _ _ _ _ _ _ _ _ _ _ _ _ _ _ _ _ _ _ _ _ _ _ _ _ _ _ _ _ _ _ _ _ _ _ _ _ _ _ _ _ _ _ _ _ _ _ _ _ _ _ _ _ _ _ _ _ _ _ _ _ _ _ _ _ _ _ _ _ _ _ _ _ _ _ _ _ _ _ _ _ _ _ _ _ _ _ _ _ _ _ _ _ _ _ _ _ _ _ _ _ _ _ _ _ _ _ _ hs hk hacc hf hown hbw He hlt hbl
      · have hbl' : blankB (s[k].toNat : Int) = false := by simpa using hbl
        by_cases h35 : (s[k].toNat : Int) = 35
        · exact rw_hash s w wr _ k f acc _ _ _ _ _ _ _ _ _ _ _ _ _ _ _ _ _ _ _ _ _ _ _ _ _ _ _ _ _ _ _ _ _ _ _ _ _ _ _ _ _ _ _ _ _ _ _ _ _ _ _ _ _ _ _ _ _ _ _ _ _ _ _ _ _ _ _ _ _ _ _ _ _ _ _ _ _ _ _ _ _ _ _ _ _ _ _ _ _ _ _ _ _ _ _ _ _ _ _ _ _ _ _ _ _ _ _ _ _ _ _ _ _ _ _ _ _ _ _ _ _ _ _ _ _ _ _ _ _ _ _ _ _ _ _ _ _ _ _ _ _ _ _ _ _ _ _ _ _ _ _ _ _ _ _ _ _ _ _ _ _ _ _ _ _ _ _ _ _ hs hk hacc hf hown hbw He hlt hbl' h35
        · by_cases hsm : smallB (s[k].toNat : Int) = true
          · exact rw_small s w wr _ k f acc _ _ _ _ _ _ _ _ _ _ _ _ _ _ _ _ _ _ _ _ _ _ _ _ _ _ _ _ _ _ _ _ _ _ _ _ _ _ _ _ _ _ _ _ _ _ _ _ _ _ _ _ _ _ _ _ _ _ _ _ _ _ _ _ _ _ _ _ _ _ _ _ _ _ _ _ _ _ _ _ _ _ _ _ _ _ _ _ _ _ _ _ _ _ _ _ _ _ _ _ _ _ _ _ _ _ _ _ _ _ _ _ _ _ _ _ _ _ _ _ _ _ _ _ _ _ _ _ _ _ _ _ _ _ _ _ _ _ _ _ _ _ _ _ _ _ _ _ _ _ _ _ _ _ _ _ _ _ _ _ _ _ _ _ _ _ _ _ _ hs hk hacc hf hown hbw He hlt hbl' h35 hsm
          · by_cases hdg : digitB (s[k].toNat : Int) = true
            · exact rw_digit s w wr _ k f acc _ _ _ _ _ _ _ _ _ _ _ _ _ _ _ _ _ _ _ _ _ _ _ _ _ _ _ _ _ _ _ _ _ _ _ _ _ _ _ _ _ _ _ _ _ _ _ _ _ _ _ _ _ _ _ _ _ _ _ _ _ _ _ _ _ _ _ _ _ _ _ _ _ _ _ _ _ _ _ _ _ _ _ _ _ _ _ _ _ _ _ _ _ _ _ _ _ _ _ _ _ _ _ _ _ _ _ _ _ _ _ _ _ _ _ _ _ _ _ _ _ _ _ _ _ _ _ _ _ _ _ _ _ _ _ _ _ _ _ _ _ _ _ _ _ _ _ _ _ _ _ _ _ _ _ _ _ _ _ _ _ _ _ _ _ _ _ _ _ hs hk hacc hf hown hbw He hlt hbl' h35 hsm hdg
            · exact rw_sign s w wr _ k f acc _ _ _ _ _ _ _ _ _ _ _ _ _ _ _ _ _ _ _ _ _ _ _ _ _ _ _ _ _ _ _ _ _ _ _ _ _ _ _ _ _ _ _ _ _ _ _ _ _ _ _ _ _ _ _ _ _ _ _ _ _ _ _ _ _ _ _ _ _ _ _ _ _ _ _ _ _ _ _ _ _ _ _ _ _ _ _ _ _ _ _ _ _ _ _ _ _ _ _ _ _ _ _ _ _ _ _ _ _ _ _ _ _ _ _ _ _ _ _ _ _ _ _ _ _ _ _ _ _ _ _ _ _ _ _ _ _ _ _ _ _ _ _ _ _ _ _ _ _ _ _ _ _ _ _ _ _ _ _ _ _ _ _ _ _ _ _ _ _ hs hk hacc hf hown hbw He hlt hbl' h35 hsm hdg
    · try dsimp only
      have HE : Hid (wordsE (bs s) = .ok acc) := He.out.trans (wordsA_end (by have := blankEnd_ge false (bs s) k; rw [bs_length]; omega))
      have hsz := hbw.size
      have hext : (⟨#[]⟩ : ByteArray) = s.extract s.size s.size := by
        apply bs_inj
        rw [bs_extract]
        simp [bs, sub]
      have Hx := Lib.hid hext
      clear hext
      go_wp2_with (at_builtin; refine wpList_append_own _ rfl (.tmp 172) (.tmp 179) 22 rfl w.heap.size 45 i0 _ 4 40 Tryd.underlying22 hi hz0 hz1 hz2 rfl (by decide) _ acc.length (toksCells s acc) rfl (hown.alloc _) ⟨wr.heap.size, 0, none⟩ 1 1 [_, _, _, _] rfl rfl (cells_new wr _ _) (one4 _ _ _ _) (by unfold maxLen; omega) (by omega) (by simp; omega) ?_; intro v1 w1 hown1 hg1 _)
      have hb3 : Below w.heap.size w w1 := (hbw.alloc hsz _).grown hg1 (by simp; omega) (fun b hb => (hown.lt b hb).1)
      go_wp2_with fail
      go_ret3
      refine ⟨hb3, ?_⟩
      rw [HE.out]
      refine ⟨v1, rfl, ?_⟩
      rw [toks_snoc4, ← Hx.out]
      exact hown1
end Go.Proofs.YtjmbkkpglkbppaaDoor
