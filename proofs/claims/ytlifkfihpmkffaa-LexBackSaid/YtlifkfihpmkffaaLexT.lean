/- The walk of the law LexBack, out of the contracts of Words, Print and the examples, and of its rounds. -/
import Derived.Test.YtlifkfihpmkffaaLexT1
namespace Go.Proofs.Ytlifkfihpmkffaa
open Go.RowKit

set_option maxHeartbeats 4000000 in
set_option maxRecDepth 1000000 in
theorem lexBack_walk (s : ByteArray) (_hs : s.size ≤ maxLen) (w : World) :
    Calls Try.prog 10 #[.string s] w fun e w' => e = .returned (.bool true) ∧ Below w.heap.size w w' := by
  by_cases hbig : 400 < s.size
  · have hb' : (400 : Int) < (s.size : Int) := by omega
    go_enter Try.func10, Try.ntmps10
    go_wp2_with (go_at_call 28; refine (awake2 _).mono ?_; rintro e w' ⟨rfl, hb⟩)
    go_ret
    exact ⟨rfl, hb⟩
  · have hb' : ¬ (400 : Int) < (s.size : Int) := by omega
    have hs400 : s.size ≤ 400 := by omega
    clear hbig
    go_enter Try.func10, Try.ntmps10
    go_wp2_with fail
    refine (words_any s _ (by omega)).mono ?_
    rintro e w1 ⟨hb1, h1⟩
    rcases hE : wordsE (bs s) with ⟨p, er⟩ | ts
    · rw [hE] at h1
      obtain rfl := h1
      have hne : (er != 0) = true := by simpa using (wordsE_err _ _ _ hE).1
      clear hE
      go_wp2_with (go_at_call 28; refine (awake2 _).mono ?_; rintro e w' ⟨rfl, hb⟩)
      go_ret
      exact ⟨rfl, hb1.trans (hb.mono hb1.size)⟩
    · rw [hE] at h1
      obtain ⟨v1, rfl, ho1⟩ := h1
      have hlen := wordsE_length _ _ hE
      have hin := wordsE_in _ _ hE
      have hfr := wordsA_from _ _ _ _ _ (by simp) hE
      have hri : ts.Pairwise (fun (a b : Int × Nat × Nat) => a.2.2 ≤ b.2.1) := wordsA_rise _ _ _ _ _ (by simp) List.Pairwise.nil hE
      obtain ⟨us, hE2, hul, hpt⟩ := back_facts s ts hE
      rw [bs_length] at hlen hin
      clear hE
      have r1 : RdT w1 v1 ((ts ++ [(0, s.size, s.size)]).map (tv s)) := by
        have := Rd.of_own ho1
        rw [toks_tvs] at this
        unfold RdT
        rw [List.length_map, List.length_append]
        exact this
      clear ho1
      have hpr := printed_tokens s ts (fun t ht => kind_ne _ _ _ _ (hfr t ht).2)
      have hsz1 : ∀ t ∈ (ts ++ [(0, s.size, s.size)]).map (tv s), t.2.1.size ≤ 100000 := by
        intro t ht
        obtain ⟨u, hu, rfl⟩ := List.mem_map.1 ht
        have h2 : u.2.2 ≤ s.size := by
          rcases List.mem_append.1 hu with h | h
          · exact (hin u h).2
          · simp at h; subst h; exact Nat.le_refl _
        have := extract_size s u.2.1 u.2.2 h2
        show (s.extract _ _).size ≤ _
        omega
      have hsz2 : (joinS (ts.map fun t => s.extract t.2.1 t.2.2)).size ≤ 1000000 := by
        apply joinS_size
        · intro x hx
          obtain ⟨u, hu, rfl⟩ := List.mem_map.1 hx
          have := extract_size s u.2.1 u.2.2 (hin u hu).2
          have := (hin u hu).2
          omega
        · rw [List.length_map]; omega
      have hrx : ∀ i (h : i + 1 < (ts ++ [(0, s.size, s.size)]).length), ((ts ++ [(0, s.size, s.size)])[i]'(by omega)).2.2 ≤ ((ts ++ [(0, s.size, s.size)])[i + 1]).2.1 := by
        have hp2 : (ts ++ [(0, s.size, s.size)]).Pairwise (fun (a b : Int × Nat × Nat) => a.2.2 ≤ b.2.1) := by
          rw [List.pairwise_append]
          refine ⟨hri, by simp, ?_⟩
          intro a ha b hb
          simp at hb; subst hb
          exact (hin a ha).2
        intro i h
        exact List.pairwise_iff_getElem.1 hp2 i (i + 1) (by omega) h (by omega)
      have hinx : ∀ t ∈ ts ++ [(0, s.size, s.size)], t.2.1 ≤ t.2.2 ∧ t.2.2 ≤ s.size := by
        intro t ht
        rcases List.mem_append.1 ht with h | h
        · have := hin t h; omega
        · simp at h; subst h; exact ⟨Nat.le_refl _, Nat.le_refl _⟩
      have Hpr := Lib.hid hpr
      have HE2 := Lib.hid hE2
      have Hsz2 := Lib.hid hsz2
      have Hpt := Lib.hid hpt
      have Hrx := Lib.hid hrx
      have Hinx := Lib.hid hinx
      have Hul := Lib.hid hul
      clear hpr hE2 hsz2 hpt hrx hinx hul hfr hri hin
      go_wp2_with fail
      refine (print_any _ _ _ r1 hsz1 (by simp; omega)).mono ?_
      rintro e w2 ⟨rfl, hb2⟩
      rw [Hpr.out]
      obtain ⟨P, hP⟩ : ∃ P, P = joinS (ts.map fun t => s.extract t.2.1 t.2.2) := ⟨_, rfl⟩
      rw [← hP]
      have HE3 : Hid (wordsE (bs P) = .ok us) := by rw [hP]; exact HE2.out
      have Hsz3 : Hid (P.size ≤ 1000000) := by rw [hP]; exact Hsz2.out
      have Hpt3 : Hid (∀ i (h1 : i < ts.length) (h2 : i < us.length), us[i].1 = ts[i].1 ∧ P.extract us[i].2.1 us[i].2.2 = s.extract ts[i].2.1 ts[i].2.2) := by rw [hP]; exact Hpt.out
      clear HE2 Hsz2 Hpt hP Hpr hsz1
      have r1' := r1.below hb2
      clear r1
      go_wp2_with fail
      refine (words_any P _ Hsz3.out).mono ?_
      rintro e w3 ⟨hb3, h3⟩
      rw [HE3.out] at h3
      obtain ⟨v3, rfl, ho3⟩ := h3
      have r2 : RdT w3 v3 ((us ++ [(0, P.size, P.size)]).map (tv P)) := by
        have := Rd.of_own ho3
        rw [toks_tvs] at this
        unfold RdT
        rw [List.length_map, List.length_append]
        exact this
      have r1 : RdT w3 v1 ((ts ++ [(0, s.size, s.size)]).map (tv s)) := Rd.below r1' hb3
      clear r1' ho3 HE3 Hsz3
      have hs1 := hb1.size
      have hs2 := hb2.size
      have hs3 := hb3.size
      have hall := hb1.trans ((hb2.mono hs1).trans (hb3.mono (by omega)))
      have l1 : ((ts ++ [(0, s.size, s.size)]).map (tv s)).length = ts.length + 1 := by simp
      have l2 : ((us ++ [(0, P.size, P.size)]).map (tv P)).length = ts.length + 1 := by simp [Hul.out]
      obtain ⟨b1, o1, c1, rfl, _, _, lt1, q1⟩ := r1.form (by omega)
      obtain ⟨b2, o2, c2, rfl, _, _, lt2, q2⟩ := r2.form (by omega)
      rw [l1, l2]
      have hq : Hid (∀ k, k < ts.length + 1 → LBFact s b1 o1 b2 o2 w3 k) := by
        intro k hk
        have hk1 : k < (ts ++ [(0, s.size, s.size)]).length := by simp; omega
        have hk2 : k < (us ++ [(0, P.size, P.size)]).length := by simp [Hul.out]; omega
        have f1 := q1 k (by omega)
        have f2 := q2 k (by omega)
        rw [List.getElem_map] at f1 f2
        refine ⟨_, _, _, Hinx.out _ (List.getElem_mem hk1), f1, ?_, ?_⟩
        · rcases Nat.lt_or_ge k ts.length with hkl | hkl
          · have hku : k < us.length := by rw [Hul.out]; exact hkl
            obtain ⟨e1, e2⟩ := Hpt3.out k hkl hku
            rw [List.getElem_append_left hku] at f2
            rw [List.getElem_append_left hkl]
            refine ⟨f2.1.trans ?_, f2.2.1.trans ?_⟩
            · show some (Value.int .i64 us[k].1) = some (.int .i64 ts[k].1)
              rw [e1]
            · show some (Value.string (P.extract us[k].2.1 us[k].2.2)) = some (Value.string (s.extract ts[k].2.1 ts[k].2.2))
              rw [e2]
          · have hke : k = ts.length := by omega
            subst hke
            have g1 : (ts ++ [(0, s.size, s.size)])[ts.length] = (0, s.size, s.size) := by simp
            have g2 : (us ++ [(0, P.size, P.size)])[ts.length] = (0, P.size, P.size) := by simp [← Hul.out]
            rw [g2] at f2
            rw [g1]
            show w3.cell? _ = some (Value.int .i64 0) ∧ w3.cell? _ = some (Value.string (s.extract s.size s.size))
            have e3 : P.extract P.size P.size = s.extract s.size s.size := by
              apply bs_inj
              rw [bs_extract, bs_extract]
              simp [sub]
            refine ⟨f2.1, ?_⟩
            rw [← e3]
            exact f2.2.1
        · rintro j rfl
          have f3 := (q1 j (by omega)).2.2.2
          rw [List.getElem_map] at f3
          exact ⟨_, Hrx.out j hk1, f3⟩
      have hend : w3.cell? ⟨b1, o1 + ts.length * 4 + 2, none⟩ = some (.int .i64 s.size) := by
        have f1 := (q1 ts.length (by omega)).2.2.1
        rw [List.getElem_map] at f1
        have g1 : (ts ++ [(0, s.size, s.size)])[ts.length] = (0, s.size, s.size) := by simp
        rw [g1] at f1
        exact f1
      clear q1 q2 r1 r2 l1 l2 Hpt3 Hrx Hinx Hul
      obtain ⟨n, hn⟩ : ∃ n, n = ts.length := ⟨_, rfl⟩
      rw [← hn] at hq hend hlen ⊢
      clear hn
      have u1 : ((n : Int) + 1 == 0) = false := by simp; omega
      go_wp2_with fail
      clear u1
      refine wp_loop (LBI s b1 o1 c1 b2 o2 c2 n w3) (fun a _ => lbMu n a) ?_ ?_
      · unfold LBI
        repeat apply Exists.intro
        refine ⟨?_, rfl⟩
        exact ⟨0, Nat.zero_le _, rfl, Below.refl _ _⟩
      · intro a wr hI
        unfold LBI at hI
        obtain ⟨u2, hI⟩ := hI
        obtain ⟨u4, hI⟩ := hI
        obtain ⟨u5, hI⟩ := hI
        obtain ⟨u7, hI⟩ := hI
        obtain ⟨u8, hI⟩ := hI
        obtain ⟨u9, hI⟩ := hI
        obtain ⟨u10, hI⟩ := hI
        obtain ⟨u11, hI⟩ := hI
        obtain ⟨u12, hI⟩ := hI
        obtain ⟨u13, hI⟩ := hI
        obtain ⟨u14, hI⟩ := hI
        obtain ⟨u15, hI⟩ := hI
        obtain ⟨u16, hI⟩ := hI
        obtain ⟨u17, hI⟩ := hI
        obtain ⟨u18, hI⟩ := hI
        obtain ⟨u19, hI⟩ := hI
        obtain ⟨u20, hI⟩ := hI
        obtain ⟨u21, hI⟩ := hI
        obtain ⟨u22, hI⟩ := hI
        obtain ⟨u23, hI⟩ := hI
        obtain ⟨u24, hI⟩ := hI
        obtain ⟨u25, hI⟩ := hI
        obtain ⟨u26, hI⟩ := hI
        obtain ⟨u27, hI⟩ := hI
        obtain ⟨u28, hI⟩ := hI
        obtain ⟨u29, hI⟩ := hI
        obtain ⟨u30, hI⟩ := hI
        obtain ⟨u31, hI⟩ := hI
        obtain ⟨u32, hI⟩ := hI
        obtain ⟨u33, hI⟩ := hI
        obtain ⟨u34, hI⟩ := hI
        obtain ⟨u35, hI⟩ := hI
        obtain ⟨u36, hI⟩ := hI
        obtain ⟨u37, hI⟩ := hI
        obtain ⟨u38, hI⟩ := hI
        obtain ⟨u39, hI⟩ := hI
        obtain ⟨u40, hI⟩ := hI
        obtain ⟨u41, hI⟩ := hI
        obtain ⟨u42, hI⟩ := hI
        obtain ⟨u43, hI⟩ := hI
        obtain ⟨u44, hI⟩ := hI
        obtain ⟨u45, hI⟩ := hI
        obtain ⟨u46, hI⟩ := hI
        obtain ⟨u47, hI⟩ := hI
        obtain ⟨u48, hI⟩ := hI
        obtain ⟨u49, hI⟩ := hI
        obtain ⟨u50, hI⟩ := hI
        obtain ⟨u51, hI⟩ := hI
        obtain ⟨u52, hI⟩ := hI
        obtain ⟨u53, hI⟩ := hI
        obtain ⟨u54, hI⟩ := hI
        obtain ⟨u55, hI⟩ := hI
        obtain ⟨u56, hI⟩ := hI
        obtain ⟨u57, hI⟩ := hI
        obtain ⟨u58, hI⟩ := hI
        obtain ⟨u59, hI⟩ := hI
        obtain ⟨u60, hI⟩ := hI
        obtain ⟨u61, hI⟩ := hI
        obtain ⟨u62, hI⟩ := hI
        obtain ⟨u63, hI⟩ := hI
        obtain ⟨u64, hI⟩ := hI
        obtain ⟨u65, hI⟩ := hI
        obtain ⟨u66, hI⟩ := hI
        obtain ⟨u67, hI⟩ := hI
        obtain ⟨u68, hI⟩ := hI
        obtain ⟨u69, hI⟩ := hI
        obtain ⟨u70, hI⟩ := hI
        obtain ⟨u71, hI⟩ := hI
        obtain ⟨u72, hI⟩ := hI
        obtain ⟨u73, hI⟩ := hI
        obtain ⟨u74, hI⟩ := hI
        obtain ⟨u75, hI⟩ := hI
        obtain ⟨u76, hI⟩ := hI
        obtain ⟨u77, hI⟩ := hI
        obtain ⟨u78, hI⟩ := hI
        obtain ⟨u79, hI⟩ := hI
        obtain ⟨u80, hI⟩ := hI
        obtain ⟨u81, hI⟩ := hI
        obtain ⟨u82, hI⟩ := hI
        obtain ⟨u83, hI⟩ := hI
        obtain ⟨u84, hI⟩ := hI
        obtain ⟨u85, hI⟩ := hI
        obtain ⟨u86, hI⟩ := hI
        obtain ⟨u87, hI⟩ := hI
        obtain ⟨u88, hI⟩ := hI
        obtain ⟨u89, hI⟩ := hI
        obtain ⟨u90, hI⟩ := hI
        obtain ⟨u91, hI⟩ := hI
        obtain ⟨u92, hI⟩ := hI
        obtain ⟨u93, hI⟩ := hI
        obtain ⟨u94, hI⟩ := hI
        obtain ⟨u95, hI⟩ := hI
        obtain ⟨u96, hI⟩ := hI
        obtain ⟨u97, hI⟩ := hI
        obtain ⟨u98, hI⟩ := hI
        obtain ⟨u99, hI⟩ := hI
        obtain ⟨u100, hI⟩ := hI
        obtain ⟨u101, hI⟩ := hI
        obtain ⟨u102, hI⟩ := hI
        obtain ⟨u103, hI⟩ := hI
        obtain ⟨u104, hI⟩ := hI
        obtain ⟨u105, hI⟩ := hI
        obtain ⟨u106, hI⟩ := hI
        obtain ⟨u107, hI⟩ := hI
        obtain ⟨u108, hI⟩ := hI
        obtain ⟨u109, hI⟩ := hI
        obtain ⟨u110, hI⟩ := hI
        obtain ⟨u111, hI⟩ := hI
        obtain ⟨u112, hI⟩ := hI
        obtain ⟨u113, hI⟩ := hI
        obtain ⟨u114, hI⟩ := hI
        obtain ⟨u115, hI⟩ := hI
        obtain ⟨u116, hI⟩ := hI
        obtain ⟨u117, hI⟩ := hI
        obtain ⟨u118, hI⟩ := hI
        obtain ⟨u119, hI⟩ := hI
        obtain ⟨u120, hI⟩ := hI
        obtain ⟨u121, hI⟩ := hI
        obtain ⟨u122, hI⟩ := hI
        obtain ⟨u123, hI⟩ := hI
        obtain ⟨u124, hI⟩ := hI
        obtain ⟨u125, hI⟩ := hI
        obtain ⟨u126, hI⟩ := hI
        obtain ⟨u127, hI⟩ := hI
        obtain ⟨u128, hI⟩ := hI
        obtain ⟨u129, hI⟩ := hI
        obtain ⟨u130, hI⟩ := hI
        obtain ⟨u131, hI⟩ := hI
        obtain ⟨u132, hI⟩ := hI
        obtain ⟨u133, hI⟩ := hI
        obtain ⟨u134, hI⟩ := hI
        obtain ⟨u135, hI⟩ := hI
        obtain ⟨u136, hI⟩ := hI
        obtain ⟨u137, hI⟩ := hI
        obtain ⟨u138, hI⟩ := hI
        obtain ⟨u139, hI⟩ := hI
        obtain ⟨hrel, rfl⟩ := hI
        obtain ⟨k, hk, rfl, hbw⟩ := hrel
        have hsw := hbw.size
        by_cases hkl : k < n + 1
        · obtain ⟨t0, p, q, ⟨hz1, hz2⟩, ⟨d0, d1, d2, d3⟩, ⟨f0, f1⟩, hprev⟩ := hq.out k hkl
          rw [← hbw.cell (p := ⟨_, _, none⟩) lt1] at d0 d1 d2 d3
          rw [← hbw.cell (p := ⟨_, _, none⟩) lt2] at f0 f1
          rcases k with _ | j
          · simp only [Nat.zero_mul, Nat.add_zero] at d0 d1 d2 d3 f0 f1
            exact lb_first s b1 o1 c1 b2 o2 c2 n w3 wr _ _ _ _ _ _ _ _ _ _ _ _ _ _ _ _ _ _ _ _ _ _ _ _ _ _ _ _ _ _ _ _ _ _ _ _ _ _ _ _ _ _ _ _ _ _ _ _ _ _ _ _ _ _ _ _ _ _ _ _ _ _ _ _ _ _ _ _ _ _ _ _ _ _ _ _ _ _ _ _ _ _ _ _ _ _ _ _ _ _ _ _ _ _ _ _ _ _ _ _ _ _ _ _ _ _ _ _ _ _ _ _ _ _ _ _ _ _ _ _ _ _ _ _ _ _ _ _ _ _ _ _ _ _ _ _ _ t0 p q (by omega) (by omega) lt1 lt2 hbw hz1 hz2 d0 d1 d2 d3 f0 f1
          · obtain ⟨q', hz3, d4⟩ := hprev j rfl
            rw [← hbw.cell (p := ⟨_, _, none⟩) lt1] at d4
            exact lb_next s b1 o1 c1 b2 o2 c2 n w3 wr _ _ j _ _ _ _ _ _ _ _ _ _ _ _ _ _ _ _ _ _ _ _ _ _ _ _ _ _ _ _ _ _ _ _ _ _ _ _ _ _ _ _ _ _ _ _ _ _ _ _ _ _ _ _ _ _ _ _ _ _ _ _ _ _ _ _ _ _ _ _ _ _ _ _ _ _ _ _ _ _ _ _ _ _ _ _ _ _ _ _ _ _ _ _ _ _ _ _ _ _ _ _ _ _ _ _ _ _ _ _ _ _ _ _ _ _ _ _ _ _ _ _ _ _ _ _ _ _ _ _ _ _ _ _ _ _ _ t0 p q (by omega) (by omega) lt1 lt2 hbw hz1 hz2 hkl d0 d1 d2 d3 f0 f1 q' hz3 d4
        · have hend2 := (hbw.cell (p := ⟨b1, o1 + n * 4 + 2, none⟩) lt1).trans hend
          clear hend
          try dsimp only
          go_wp2_with (go_at_call 28; refine (awake2 _).mono ?_; rintro e w' ⟨rfl, hb⟩)
          go_ret
          exact ⟨rfl, hall.trans ((hbw.mono (by omega)).trans (hb.mono (by omega)))⟩
end Go.Proofs.Ytlifkfihpmkffaa
