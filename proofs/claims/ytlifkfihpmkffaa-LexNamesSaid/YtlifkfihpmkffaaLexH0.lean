/- What holds at the head of a round of the answer's Words; what a round's end does to it. -/
import Derived.Test.YtlifkfihpmkffaaLexG
namespace Go.Proofs.Ytlifkfihpmkffaa
open Go.RowKit

theorem toks_snoc4 (s : ByteArray) (ts : List (Int × Nat × Nat)) (a : Int) (b c : Nat) : toksCells s (ts ++ [(a, b, c)]) = toksCells s ts ++ [.int .i64 a, .string (s.extract b c), .int .i64 b, .int .i64 c] := by
  rw [toksCells_snoc]; rfl
theorem one4 (a b c : Int) (t : ByteArray) : ∀ u ∈ [Value.int .i64 a, .string t, .int .i64 b, .int .i64 c], u.oneCell' = true := by
  intro u hu
  simp at hu
  rcases hu with rfl | rfl | rfl | rfl <;> rfl
/-- What holds at the head of a round. -/
def RWRel (s : ByteArray) (w : World) (v t : Value) (wr : World) : Prop :=
  ∃ (k f : Nat) (acc : List (Int × Nat × Nat)), k ≤ s.size ∧ acc.length ≤ k ∧ s.size < f + k ∧ t = .int .i64 k ∧ wr.ownsRow w.heap.size 53 4 v acc.length (toksCells s acc) ∧ Below w.heap.size w wr ∧ wordsE (bs s) = wordsA (bs s) f (blankEnd false (bs s) k) acc

theorem rw_step {s : ByteArray} {w w1 : World} {v1 t : Value} {k f to : Nat} {acc : List (Int × Nat × Nat)} {kd : Int} (hlt : k < s.size) (hacc : acc.length ≤ k) (hf : s.size < f + k)
    (He : Hid (wordsE (bs s) = wordsA (bs s) f (blankEnd false (bs s) k) acc)) (HB : Hid (blankEnd false (bs s) k = k)) (HT : tokenT (bs s) k = (kd, to, 0))
    (ht : t = .int .i64 to) (hown : w1.ownsRow w.heap.size 53 4 v1 (acc.length + 1) (toksCells s acc ++ [.int .i64 kd, .string (s.extract k to), .int .i64 k, .int .i64 to])) (hb : Below w.heap.size w w1) : RWRel s w v1 t w1 := by
  have hok := tokenT_ok (bs s) k (by rw [bs_length]; exact hlt)
  rw [HT, bs_length] at hok
  obtain ⟨h1, h2⟩ := hok rfl
  have h1 : k < to := h1
  have h2 : to ≤ s.size := h2
  refine ⟨to, f - 1, acc ++ [(kd, k, to)], h2, by simp; omega, by omega, ht, ?_, hb, ?_⟩
  · rw [toks_snoc4, List.length_append]; exact hown
  · rw [He.out, HB.out]; exact wordsA_go (by omega) (by rw [bs_length]; exact hlt) HT
theorem rw_bad {s : ByteArray} {w w1 : World} {k f to : Nat} {acc : List (Int × Nat × Nat)} {kd er a b : Int} (hlt : k < s.size) (hf : s.size < f + k)
    (He : Hid (wordsE (bs s) = wordsA (bs s) f (blankEnd false (bs s) k) acc)) (HB : Hid (blankEnd false (bs s) k = k)) (HT : tokenT (bs s) k = (kd, to, er)) (h0 : er ≠ 0) (ha : a = k) (hb' : b = er)
    (hb : Below w.heap.size w w1) : WordsPost s w (.returned (.tuple #[.slice none 0 0, .int .i64 a, .int .i64 b])) w1 := by
  subst ha; subst hb'
  refine ⟨hb, ?_⟩
  rw [He.out, HB.out, wordsA_bad (by omega) (by rw [bs_length]; exact hlt) HT h0]


/-- The first loop of a code. -/
def firstLoop : Code → Option Code
  | .loop c => some c
  | .seq a b => match firstLoop a with
    | some c => some c
    | none => firstLoop b
  | .block _ c => firstLoop c
  | .scope c => firstLoop c
  | .cond _ a b => match firstLoop a with
    | some c => some c
    | none => firstLoop b
  | _ => none
noncomputable def rwBody : Code := ((Try.f30.body.bind firstLoop).getD .skip)
set_option maxRecDepth 1000000 in
/-- The loop's invariant, and its measure. -/
def RWI (s : ByteArray) (w : World) (a : Act) (w' : World) : Prop := ∃ u2 u3 u4 u5 u6 u7 u8 u9 u10 u11 u12 u13 u14 u15 u16 u17 u18 u19 u20 u21 u22 u23 u24 u25 u26 u27 u28 u29 u30 u31 u32 u33 u34 u35 u36 u37 u38 u39 u40 u41 u42 u43 u44 u45 u46 u47 u48 u49 u50 u51 u52 u53 u54 u55 u56 u57 u58 u59 u60 u61 u62 u63 u64 u65 u66 u67 u68 u69 u70 u71 u72 u73 u74 u75 u76 u77 u78 u79 u80 u81 u82 u83 u84 u85 u86 u87 u88 u89 u90 u91 u92 u93 u94 u95 u96 u97 u98 u99 u100 u101 u102 u103 u104 u105 u106 u107 u108 u109 u110 u111 u112 u113 u114 u115 u116 u117 u118 u119 u120 u121 u122 u123 u124 u125 u126 u127 u128 u129 u130 u131 u132 u133 u134 u135 u136 u137 u138 u139 u140 u141 u142 u143 u144 u145 u146 u147 u148 u149 u150 u151 u152 u153 u154 u155 u156 u157 u158 u159 u160 u161 u162 u163 u164 u165 u166 u167 u168 u169 u170 u171 : Value, RWRel s w u5 u6 w' ∧ a = ⟨#[.string s, undef, u2, u3, u4, u5, u6, u7, u8, u9, u10, u11, u12, u13, u14, u15, u16, u17, u18, u19, u20, u21, u22, u23, u24, u25, u26, u27, u28, u29, u30, u31, u32, u33, u34, u35, u36, u37, u38, u39, u40, u41, u42, u43, u44, u45, u46, u47, u48, u49, u50, u51, u52, u53, u54, u55, u56, u57, u58, u59, u60, u61, u62, u63, u64, u65, u66, u67, u68, u69, u70, u71, u72, u73, u74, u75, u76, u77, u78, u79, u80, u81, u82, u83, u84, u85, u86, u87, u88, u89, u90, u91, u92, u93, u94, u95, u96, u97, u98, u99, u100, u101, u102, u103, u104, u105, u106, u107, u108, u109, u110, u111, u112, u113, u114, u115, u116, u117, u118, u119, u120, u121, u122, u123, u124, u125, u126, u127, u128, u129, u130, u131, u132, u133, u134, u135, u136, u137, u138, u139, u140, u141, u142, u143, u144, u145, u146, u147, u148, u149, u150, u151, u152, u153, u154, u155, u156, u157, u158, u159, u160, u161, u162, u163, u164, u165, u166, u167, u168, u169, u170, u171, undef, undef, undef, undef, undef, undef, undef, undef, undef], []⟩
def rwMu (s : ByteArray) (a : Act) : Nat := s.size - (intOf (a.tmps.getD 6 undef)).toNat
end Go.Proofs.Ytlifkfihpmkffaa
