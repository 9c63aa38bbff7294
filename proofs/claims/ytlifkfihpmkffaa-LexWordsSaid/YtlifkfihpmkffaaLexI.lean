/- The walk of the law LexWords, out of the contracts of the two Words, Same and the examples. -/
import Derived.Test.YtlifkfihpmkffaaLexF
import Derived.Test.YtlifkfihpmkffaaLexK
import Derived.Test.YtlifkfihpmkffaaLexH
namespace Go.Proofs.Ytlifkfihpmkffaa
open Go.RowKit

set_option maxHeartbeats 4000000 in
set_option maxRecDepth 100000 in
theorem lexWords_walk (s : ByteArray) (_hs : s.size ≤ maxLen) (w : World) :
    Calls Try.prog 8 #[.string s] w fun e w' => e = .returned (.bool true) ∧ Below w.heap.size w w' := by
  by_cases hbig : 400 < s.size
  · have hb' : (400 : Int) < (s.size : Int) := by omega
    go_enter Try.func8, Try.ntmps8
    go_wp2_with (go_at_call 28; refine (awake2 _).mono ?_; rintro e w' ⟨rfl, hb⟩)
    go_ret
    exact ⟨rfl, hb⟩
  · have hb' : ¬ (400 : Int) < (s.size : Int) := by omega
    go_enter Try.func8, Try.ntmps8
    go_wp2_with fail
    refine (words_any s _ (by omega)).mono ?_
    rintro e w1 ⟨hb1, h1⟩
    rcases hE : wordsE (bs s) with ⟨p, er⟩ | ts
    · rw [hE] at h1
      obtain rfl := h1
      go_wp2_with fail
      refine (rwords_any s _ (by omega)).mono ?_
      rintro e w2 ⟨hb2, h2⟩
      rw [hE] at h2
      obtain rfl := h2
      have HE := Lib.hid hE
      clear hE
      have hn : RdT w2 (.slice none 0 0) [] := ⟨rfl, .inl ⟨rfl, _, _, rfl⟩⟩
      go_wp2_with fail
      refine (same2_yes w2 _ _ [] hn hn (by simp)).mono ?_
      rintro e w3 ⟨rfl, hb3⟩
      go_wp2_with (go_at_call 28; refine (awake2 _).mono ?_; rintro e w' ⟨rfl, hb⟩)
      go_ret
      exact ⟨rfl, hb1.trans ((hb2.mono hb1.size).trans ((hb3.mono (Nat.le_trans hb1.size hb2.size)).trans (hb.mono (Nat.le_trans hb1.size (Nat.le_trans hb2.size hb3.size)))))⟩
    · rw [hE] at h1
      obtain ⟨v1, rfl, ho1⟩ := h1
      have hlen := wordsE_length _ _ hE
      rw [bs_length] at hlen
      go_wp2_with fail
      refine (rwords_any s _ (by omega)).mono ?_
      rintro e w2 ⟨hb2, h2⟩
      rw [hE] at h2
      obtain ⟨v2, rfl, ho2⟩ := h2
      have HE := Lib.hid hE
      clear hE
      have r1 : RdT w2 v1 ((ts ++ [(0, s.size, s.size)]).map (tv s)) := by
        have := (Rd.of_own ho1).below hb2
        rw [toks_tvs] at this
        unfold RdT
        rw [List.length_map, List.length_append]
        exact this
      have r2 : RdT w2 v2 ((ts ++ [(0, s.size, s.size)]).map (tv s)) := by
        have := Rd.of_own ho2
        rw [toks_tvs] at this
        unfold RdT
        rw [List.length_map, List.length_append]
        exact this
      clear ho1 ho2
      go_wp2_with fail
      refine (same2_yes w2 _ _ _ r1 r2 (by simp; omega)).mono ?_
      rintro e w3 ⟨rfl, hb3⟩
      go_wp2_with (go_at_call 28; refine (awake2 _).mono ?_; rintro e w' ⟨rfl, hb⟩)
      go_ret
      exact ⟨rfl, hb1.trans ((hb2.mono hb1.size).trans ((hb3.mono (Nat.le_trans hb1.size hb2.size)).trans (hb.mono (Nat.le_trans hb1.size (Nat.le_trans hb2.size hb3.size)))))⟩
end Go.Proofs.Ytlifkfihpmkffaa
