/- A round of the answer's Words at a number. -/
import Derived.Test.YtlifkfihpmkffaaLexH0
namespace Go.Proofs.Ytlifkfihpmkffaa
open Go.RowKit
set_option linter.unusedVariables false

set_option maxHeartbeats 8000000 in
set_option maxRecDepth 1000000 in
theorem rw_digit (s : ByteArray) (w wr : World) (K : Act → World → Prop) (k f : Nat) (acc : List (Int × Nat × Nat)) (u2 u3 u4 u5 u7 u8 u9 u10 u11 u12 u13 u14 u15 u16 u17 u18 u19 u20 u21 u22 u23 u24 u25 u26 u27 u28 u29 u30 u31 u32 u33 u34 u35 u36 u37 u38 u39 u40 u41 u42 u43 u44 u45 u46 u47 u48 u49 u50 u51 u52 u53 u54 u55 u56 u57 u58 u59 u60 u61 u62 u63 u64 u65 u66 u67 u68 u69 u70 u71 u72 u73 u74 u75 u76 u77 u78 u79 u80 u81 u82 u83 u84 u85 u86 u87 u88 u89 u90 u91 u92 u93 u94 u95 u96 u97 u98 u99 u100 u101 u102 u103 u104 u105 u106 u107 u108 u109 u110 u111 u112 u113 u114 u115 u116 u117 u118 u119 u120 u121 u122 u123 u124 u125 u126 u127 u128 u129 u130 u131 u132 u133 u134 u135 u136 u137 u138 u139 u140 u141 u142 u143 u144 u145 u146 u147 u148 u149 u150 u151 u152 u153 u154 u155 u156 u157 u158 u159 u160 u161 u162 u163 u164 u165 u166 u167 u168 u169 u170 u171 : Value) (hs : s.size ≤ 1000000) (hk : k ≤ s.size) (hacc : acc.length ≤ k) (hf : s.size < f + k)
    (hown : wr.ownsRow w.heap.size 53 4 u5 acc.length (toksCells s acc)) (hbw : Below w.heap.size w wr) (He : Hid (wordsE (bs s) = wordsA (bs s) f (blankEnd false (bs s) k) acc)) (hlt : k < s.size) (hbl' : blankB (s[k].toNat : Int) = false) (h35 : ¬ (s[k].toNat : Int) = 35) (hsm : ¬ smallB (s[k].toNat : Int) = true) (hdg : digitB (s[k].toNat : Int) = true) :
    Code.wp Try.prog rwBody (Exit.then (fun a' w' => RWI s w a' w' ∧ rwMu s a' < rwMu s ⟨#[.string s, undef, u2, u3, u4, u5, .int .i64 k, u7, u8, u9, u10, u11, u12, u13, u14, u15, u16, u17, u18, u19, u20, u21, u22, u23, u24, u25, u26, u27, u28, u29, u30, u31, u32, u33, u34, u35, u36, u37, u38, u39, u40, u41, u42, u43, u44, u45, u46, u47, u48, u49, u50, u51, u52, u53, u54, u55, u56, u57, u58, u59, u60, u61, u62, u63, u64, u65, u66, u67, u68, u69, u70, u71, u72, u73, u74, u75, u76, u77, u78, u79, u80, u81, u82, u83, u84, u85, u86, u87, u88, u89, u90, u91, u92, u93, u94, u95, u96, u97, u98, u99, u100, u101, u102, u103, u104, u105, u106, u107, u108, u109, u110, u111, u112, u113, u114, u115, u116, u117, u118, u119, u120, u121, u122, u123, u124, u125, u126, u127, u128, u129, u130, u131, u132, u133, u134, u135, u136, u137, u138, u139, u140, u141, u142, u143, u144, u145, u146, u147, u148, u149, u150, u151, u152, u153, u154, u155, u156, u157, u158, u159, u160, u161, u162, u163, u164, u165, u166, u167, u168, u169, u170, u171, undef, undef, undef, undef, undef, undef, undef, undef, undef], []⟩) (Exit.inBlock 0 (Exit.then K (bodyPost Try.prog Try.f30 (WordsPost s w))))) ⟨#[.string s, undef, u2, u3, u4, u5, .int .i64 k, u7, u8, u9, u10, u11, u12, u13, u14, u15, u16, u17, u18, u19, u20, u21, u22, u23, u24, u25, u26, u27, u28, u29, u30, u31, u32, u33, u34, u35, u36, u37, u38, u39, u40, u41, u42, u43, u44, u45, u46, u47, u48, u49, u50, u51, u52, u53, u54, u55, u56, u57, u58, u59, u60, u61, u62, u63, u64, u65, u66, u67, u68, u69, u70, u71, u72, u73, u74, u75, u76, u77, u78, u79, u80, u81, u82, u83, u84, u85, u86, u87, u88, u89, u90, u91, u92, u93, u94, u95, u96, u97, u98, u99, u100, u101, u102, u103, u104, u105, u106, u107, u108, u109, u110, u111, u112, u113, u114, u115, u116, u117, u118, u119, u120, u121, u122, u123, u124, u125, u126, u127, u128, u129, u130, u131, u132, u133, u134, u135, u136, u137, u138, u139, u140, u141, u142, u143, u144, u145, u146, u147, u148, u149, u150, u151, u152, u153, u154, u155, u156, u157, u158, u159, u160, u161, u162, u163, u164, u165, u166, u167, u168, u169, u170, u171, undef, undef, undef, undef, undef, undef, undef, undef, undef], []⟩ wr := by
  obtain ⟨i0, hi, hz0, hz1, hz2⟩ := info_parts tokInfo
  have hg := bs_get s k hlt
  have hll : k < (bs s).length := by rw [bs_length]; exact hlt
  conv => arg 2; whnf
  have n1 : ((s[k].toNat : Int) == 32) = false := by unfold blankB at hbl'; simp at hbl'; simp; omega
  have n2 : ((s[k].toNat : Int) == 9) = false := by unfold blankB at hbl'; simp at hbl'; simp; omega
  have n3 : ((s[k].toNat : Int) == 10) = false := by unfold blankB at hbl'; simp at hbl'; simp; omega
  have n4 : ((s[k].toNat : Int) == 13) = false := by unfold blankB at hbl'; simp at hbl'; simp; omega
  have HB : Hid (blankEnd false (bs s) k = k) := blankEnd_token hll (by rw [hg]; exact hbl') (by rw [hg]; exact h35)
  have e35 : ((s[k].toNat : Int) == 35) = false := by simpa using h35
  have hat := at_bs s k hlt
  clear h35 hbl' hg
  have hsm' : smallB (s[k].toNat : Int) = false := by simpa using hsm
  clear hsm
  have hsz := hbw.size
  have HTt : Hid (tokenT (bs s) k = numberT (bs s) k) := by
    show tokenT (bs s) k = numberT (bs s) k
    unfold tokenT; rw [hat, if_neg (by simp [hsm']), if_pos hdg]
  have HE : Hid (endAt digitB (bs s) k = endAt digitB (bs s) (k + 1)) := endAt_go hll (by rw [← at_get _ _ hll, hat]; exact hdg)
  have Hat := Lib.hid hat
  clear hat hll
  go_wp2_with (first | (go_at_call 51; refine (rLetter_any _ _).mono ?_; rintro e w' ⟨rfl, rfl⟩) | (go_at_call 53; refine (rDigit_any _ _).mono ?_; rintro e w' ⟨rfl, rfl⟩))
  go_loop [8] (fun t => ∃ j : Nat, k < j ∧ j ≤ s.size ∧ t = .int .i64 j ∧ endAt digitB (bs s) k = endAt digitB (bs s) j) (fun t => s.size - (intOf t).toNat)
  case atStart => exact ⟨k + 1, by omega, by omega, by go_num, HE.out⟩
  case round =>
    obtain ⟨j, hkj, hjs, rfl, hej⟩ := hrel
    have Hej := Lib.hid hej
    clear hej
    by_cases hin : ∃ h : j < s.size, digitB (s[j].toNat : Int) = true
    · obtain ⟨hj, hp⟩ := hin
      have HJ : Hid (endAt digitB (bs s) j = endAt digitB (bs s) (j + 1)) := endAt_go (by rw [bs_length]; exact hj) (by rw [bs_get s j hj]; exact hp)
      go_wp2_with (go_at_call 53; refine (rDigit_any _ _).mono ?_; rintro e w' ⟨rfl, rfl⟩)
      go_round
      case rel => exact ⟨j + 1, by omega, by omega, by go_num, Hej.out.trans HJ.out⟩
      case measure => simp [intOf]; omega
    · have HJ : Hid (endAt digitB (bs s) k = j) := by
        show endAt digitB (bs s) k = j
        rw [Hej.out]
        rcases Nat.lt_or_ge j s.size with hj | hj
        · have : digitB (s[j].toNat : Int) = false := by
            rcases h : digitB (s[j].toNat : Int) with _ | _
            · rfl
            · exact absurd ⟨hj, h⟩ hin
          exact endAt_stop (by rw [bs_length]; exact hj) (by rw [bs_get s j hj]; exact this)
        · exact endAt_end (by rw [bs_length]; exact hj)
      clear Hej HE
      have HW : Hid (tokenT (bs s) k = numR (((s[k].toNat : Int) == 48 && decide (k + 1 < j)) || (decide (j < s.size) && (smallB (at_ (bs s) j) || at_ (bs s) j == 95))) k j) := by
        have h1 := numberT_eq (bs s) k j HJ.out.symm
        rw [Hat.out, bs_length] at h1
        exact HTt.out.trans h1
      clear HTt
      have hgt : Hid (decide (k + 1 < j) = decide ((k : Int) + 1 < (j : Int))) := decide_eq_decide.2 (by omega)
      have hkk : (∃ h : j < s.size, digitB (s[j].toNat : Int) = false ∧ innerB (s[j].toNat : Int) = true ∧ Hid ((smallB (at_ (bs s) j) || at_ (bs s) j == 95) = true)) ∨ (∃ h : j < s.size, digitB (s[j].toNat : Int) = false ∧ innerB (s[j].toNat : Int) = false ∧ Hid ((smallB (at_ (bs s) j) || at_ (bs s) j == 95) = false)) ∨ ¬ j < s.size := by
        rcases Nat.lt_or_ge j s.size with h | h
        · have hdj : digitB (s[j].toNat : Int) = false := by
            rcases h' : digitB (s[j].toNat : Int) with _ | _
            · rfl
            · exact absurd ⟨h, h'⟩ hin
          have hi2 : innerB (s[j].toNat : Int) = (smallB (at_ (bs s) j) || at_ (bs s) j == 95) := by
            rw [at_bs s j h]; unfold innerB; rw [hdj]; simp
          rcases h' : innerB (s[j].toNat : Int) with _ | _
          · exact .inr (.inl ⟨h, hdj, h', hi2.symm.trans h'⟩)
          · exact .inl ⟨h, hdj, h', hi2.symm.trans h'⟩
        · exact .inr (.inr (by omega))
      clear hin
      by_cases hbig : ((s[k].toNat : Int) == 48) = true ∧ (k : Int) + 1 < (j : Int)
      · obtain ⟨hb1, hb2⟩ := hbig
        have HT : Hid (tokenT (bs s) k = (0, 0, 3)) := by
          refine HW.out.trans ?_
          rw [hgt.out, hb1, decide_eq_true hb2]; rfl
        clear HW hgt
        rcases hkk with ⟨hj, hf0, hf1, _⟩ | ⟨hj, hf0, hf1, _⟩ | hf0
        all_goals
          go_wp2_with (first | (go_at_call 52; refine (rInner_any _ _).mono ?_; rintro e w' ⟨rfl, rfl⟩) | (go_at_call 53; refine (rDigit_any _ _).mono ?_; rintro e w' ⟨rfl, rfl⟩))
          go_ret3
          exact rw_bad hlt hf He HB HT.out (by decide) rfl rfl hbw
      · have hbig' : ((s[k].toNat : Int) == 48) = false ∨ (((s[k].toNat : Int) == 48) = true ∧ ¬ (k : Int) + 1 < (j : Int)) := by
          rcases h : ((s[k].toNat : Int) == 48) with _ | _
          · exact .inl rfl
          · exact .inr ⟨rfl, fun h' => hbig ⟨h, h'⟩⟩
        have HW2 : Hid (tokenT (bs s) k = numR (decide (j < s.size) && (smallB (at_ (bs s) j) || at_ (bs s) j == 95)) k j) := by
          refine HW.out.trans ?_
          rw [hgt.out]
          rcases hbig' with h | ⟨_, h⟩
          · rw [h]; rfl
          · rw [decide_eq_false h]; simp
        clear hbig HW hgt
        rcases hkk with ⟨hj, hf0, hf1, hf2⟩ | hkk
        · have HT : Hid (tokenT (bs s) k = (0, 0, 3)) := by
            refine HW2.out.trans ?_
            rw [hf2.out, decide_eq_true hj]; rfl
          clear hf2 HW2
          rcases hbig' with h1 | ⟨h1, h2⟩
          all_goals
            go_wp2_with (first | (go_at_call 52; refine (rInner_any _ _).mono ?_; rintro e w' ⟨rfl, rfl⟩) | (go_at_call 53; refine (rDigit_any _ _).mono ?_; rintro e w' ⟨rfl, rfl⟩))
            go_ret3
            exact rw_bad hlt hf He HB HT.out (by decide) rfl rfl hbw
        · have HT : Hid (tokenT (bs s) k = numR false k j) := by
            refine HW2.out.trans ?_
            rcases hkk with ⟨hj, _, _, hf2⟩ | h
            · rw [hf2.out]; simp
            · rw [decide_eq_false h]; rfl
          have hkk2 : (∃ h : j < s.size, digitB (s[j].toNat : Int) = false ∧ innerB (s[j].toNat : Int) = false) ∨ ¬ j < s.size := by
            rcases hkk with ⟨hj, h1, h2, _⟩ | h
            · exact .inl ⟨hj, h1, h2⟩
            · exact .inr h
          clear hkk HW2
          by_cases h9 : 9 < j - k
          · have HT2 : Hid (tokenT (bs s) k = (0, 0, 2)) := by
              refine HT.out.trans ?_
              unfold numR; rw [if_neg (by simp), if_pos h9]
            have h9' : (9 : Int) < (j : Int) - (k : Int) := by omega
            clear HT
            have h1 : ((s[k].toNat : Int) == 48) = false := by
              rcases hbig' with h | ⟨_, h⟩
              · exact h
              · omega
            clear hbig'
            rcases hkk2 with ⟨hj, hf0, hf1⟩ | hf0
            all_goals
              go_wp2_with (first | (go_at_call 52; refine (rInner_any _ _).mono ?_; rintro e w' ⟨rfl, rfl⟩) | (go_at_call 53; refine (rDigit_any _ _).mono ?_; rintro e w' ⟨rfl, rfl⟩))
              go_ret3
              exact rw_bad hlt hf He HB HT2.out (by decide) rfl rfl hbw
          · have HT2 : Hid (tokenT (bs s) k = (2, j, 0)) := by
              refine HT.out.trans ?_
              unfold numR; rw [if_neg (by simp), if_neg h9]
            have h9' : ¬ (9 : Int) < (j : Int) - (k : Int) := by omega
            clear HT
            rcases hbig' with h1 | ⟨h1, h2⟩ <;> rcases hkk2 with ⟨hj, hf0, hf1⟩ | hf0
            all_goals
              go_wp2_with (first | (go_at_call 52; refine (rInner_any _ _).mono ?_; rintro e w' ⟨rfl, rfl⟩) | (go_at_call 53; refine (rDigit_any _ _).mono ?_; rintro e w' ⟨rfl, rfl⟩) | (at_builtin; refine wpList_append_own _ rfl (.tmp 159) (.tmp 169) 44 rfl w.heap.size 53 i0 _ 4 40 Try.underlying44 hi hz0 hz1 hz2 rfl (by decide) _ acc.length (toksCells s acc) rfl (hown.alloc _) ⟨wr.heap.size, 0, none⟩ 1 1 [_, _, _, _] rfl rfl (cells_new wr _ _) (one4 _ _ _ _) (by unfold maxLen; omega) (by omega) (by simp; omega) ?_; intro v1 w1 hown1 hg1 _))
              have hb3 : Below w.heap.size w w1 := (hbw.alloc hsz _).grown hg1 (by simp; omega) (fun b hb => (hown.lt b hb).1)
              go_wp2_with fail
              go_roundw
              case rel =>
                unfold RWI
                repeat apply Exists.intro
                exact ⟨rw_step hlt hacc hf He HB HT2.out rfl hown1 hb3, rfl⟩
              case measure => simp [rwMu, intOf]; omega
end Go.Proofs.Ytlifkfihpmkffaa
