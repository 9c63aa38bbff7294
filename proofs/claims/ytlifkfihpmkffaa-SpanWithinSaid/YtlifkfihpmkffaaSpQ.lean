/- The contract of the document's answer for merged spans. -/
import Derived.Test.YtlifkfihpmkffaaSpQ2
import Derived.Deep.QuietTactic
import Derived.BigQuiet
import Derived.Deep.RegionHeld3
namespace Go.Proofs.Ytlifkfihpmkffaa
open Go.RowKit

theorem own_mono' {w : World} {B B' : Nat} {e : TypeId} {size : Nat} {v : Value} {n : Nat} {xs : List Value} (h : w.ownsRow B e size v n xs) (hB : B' ≤ B) : w.ownsRow B' e size v n xs := by
  obtain ⟨h1, h2⟩ := h
  refine ⟨h1, ?_⟩
  rcases h2 with h2 | ⟨g, cap, cur, hv, hg, r⟩
  · exact .inl h2
  · exact .inr ⟨g, cap, cur, hv, by omega, r⟩
def Calm (w w' : World) : Prop := ∃ n, w' = w.drewN n
theorem Calm.refl (w : World) : Calm w w := ⟨0, rfl⟩
theorem Calm.drewN {w w' : World} (h : Calm w w') (k : Nat) : Calm w (w'.drewN k) := by
  obtain ⟨n, rfl⟩ := h
  exact ⟨n + k, by simp [World.drewN, Nat.add_assoc]⟩
theorem Calm.size {w w' : World} (h : Calm w w') : w'.heap.size = w.heap.size := by
  obtain ⟨n, rfl⟩ := h; rfl
theorem Calm.rd {w w' : World} (h : Calm w w') {k n : Nat} {v : Value} {xs : List Value} (hr : Rd w k v n xs) : Rd w' k v n xs := by
  obtain ⟨_, rfl⟩ := h; exact hr
theorem Calm.below {B : Nat} {w w' : World} (h : Calm w w') : Below B w w' := by
  obtain ⟨n, rfl⟩ := h; exact below_drewN (Below.refl _ _) _
theorem Calm.cell {w w' : World} (h : Calm w w') (a : Addr) : w'.cell? a = w.cell? a := by
  obtain ⟨n, rfl⟩ := h; rfl
set_option maxHeartbeats 4000000 in
set_option maxRecDepth 100000 in
theorem rmerge_any (w : World) (v : Value) (l : List Sp) (h : RdS w v l) (hl : l.length ≤ 1000000) (h0 : 0 < l.length) : Calls Try.prog 15 #[v] w fun e w' => ∃ v', e = .returned v' ∧ w'.ownsRow w.heap.size 25 2 v' (refAll l).length (spCells (refAll l)) ∧ Below w.heap.size w w' := by
  obtain ⟨i0, hi, hz0, hz1, hz2⟩ := info_parts spInfo
  obtain ⟨b, off, cap, rfl, hnc, hcm, hlt, hc⟩ := h.form h0
  have Hc := Lib.hid hc
  clear hc h
  go_enter Try.func15, Try.ntmps15
  go_wp2_with fail
  go_loopw [3, 4] (fun t3 t4 wr => RMRel l w t3 t4 wr) (fun _ t _ => l.length - (intOf t).toNat)
  case atStart => exact ⟨0, Nat.zero_le _, rfl, World.ownsRow_nil _ _ _ _, Below.refl _ _⟩
  case round =>
    obtain ⟨wo, rfl⟩ : ∃ wo : World, wo = wr := ⟨_, rfl⟩
    obtain ⟨k, hk, rfl, hown, hbw⟩ := hrel
    by_cases hkl : k < l.length
    · obtain ⟨c0, c1⟩ := Hc.out k hkl
      have e0 := (hbw.cell (p := ⟨b, off + k * 2, none⟩) hlt).trans c0
      have e1 := (hbw.cell (p := ⟨b, off + k * 2 + 1, none⟩) hlt).trans c1
      clear c0 c1
      have Hta := Lib.hid (refAll_take l k hkl)
      generalize l[k] = s at *
      obtain ⟨s1, s2⟩ := s
      by_cases hs : s1 < s2
      · have hd : decide (s2 ≤ s1) = false := decide_eq_false (by omega)
        have hol := refAll_length l k
        obtain ⟨out, hout⟩ : ∃ out, out = refAll (l.take k) := ⟨_, rfl⟩
        rw [← hout] at hown hol Hta
        clear hout
        obtain ⟨A, c, rfl, hoc, hocm, hA⟩ := own_form hown
        have Ho := Lib.hid (RdS.of_own hown)
        clear hown
        obtain ⟨F, hF⟩ : ∃ F, refFold out (s1, s2) [] = F := ⟨_, rfl⟩
        have HF := Lib.hid hF
        clear hF
        go_wp2_with fail
        obtain ⟨g, hg⟩ : ∃ g, g = wo.heap.size := ⟨_, rfl⟩
        obtain ⟨w1, hw1⟩ : ∃ w1, w1 = wo.alloc (.cells #[.int .i64 s1, .int .i64 s2] 25) := ⟨_, rfl⟩
        have k0 : w1.cell? ⟨g, 0, none⟩ = some (.int .i64 s1) := by rw [hw1, hg]; go_simp
        have k1 : w1.cell? ⟨g, 1, none⟩ = some (.int .i64 s2) := by rw [hw1, hg]; go_simp
        have k2 : w1.frozen? ⟨g, 0, none⟩ = false := by rw [hw1, hg]; go_simp
        have k3 : w1.frozen? ⟨g, 1, none⟩ = false := by rw [hw1, hg]; go_simp
        have hgw : g < w1.heap.size := by rw [hw1, hg]; simp
        have hbo1 : Below w.heap.size w w1 := by rw [hw1]; exact hbw.alloc hbw.size _
        have hgb : w.heap.size ≤ g := by rw [hg]; exact hbw.size
        rw [← hw1, ← hg]
        have Hg := Lib.hid hg
        have Hw1 := Lib.hid hw1
        clear hg hw1
        go_loopw [6, 7] (fun t6 t7 wi => RIRel out F g w1 t6 t7 wi) (fun _ t _ => out.length - (intOf t).toNat)
        case atStart => exact ⟨0, (s1, s2), [], Nat.zero_le _, rfl, HF.out, Nat.le_refl _, k0, k1, k2, k3, World.ownsRow_nil _ _ _ _, Below.refl _ _, hgw, fun _ => rfl⟩
        case round =>
          obtain ⟨j, s, rest, hj, rfl, hf, hrj, q0, q1, q2, q3, hrest, hb, hgl, hnil⟩ := hrel
          have Hnil := Lib.hid hnil
          clear hnil k0 k1 k2 k3
          obtain ⟨a1, a2⟩ := s
          obtain ⟨A6, c6, rfl, hr6, hc6, _⟩ := own_form hrest
          by_cases hjl : j < out.length
          · obtain ⟨bo, oo, co, hv, _, _, hbo, hco⟩ := Ho.out.form (by omega)
            injection hv with hv1 hv2 hv3
            subst hv1; subst hv3
            obtain ⟨d0, d1⟩ := hco j hjl
            have hbg : bo < g := by rw [Hg.out]; exact hbo
            have hblk : wr.heap[bo]? = wo.heap[bo]? := by rw [hb.block bo hbg, Hw1.out]; exact Below.heap_alloc _ _ _ hbo
            rw [← World.cell?_of_block (a := ⟨bo, oo + j * 2, none⟩) hblk] at d0
            rw [← World.cell?_of_block (a := ⟨bo, oo + j * 2 + 1, none⟩) hblk] at d1
            have hst := refFold_step out j hjl (a1, a2) rest
            rw [hf] at hst
            generalize out[j] = t at *
            obtain ⟨t1, t2⟩ := t
            have Hst := Lib.hid hst
            clear hst hf hblk hco
            have gl : wr.heap.size < (wr.alloc (.cells #[.int .i64 t1, .int .i64 t2] 25)).heap.size := by simp
            by_cases hj1 : t1 ≤ a2
            · by_cases hj2 : a1 ≤ t2
              · have hd1 : decide (t1 ≤ a2) = true := decide_eq_true hj1
                have hd2 : decide (a1 ≤ t2) = true := decide_eq_true hj2
                go_wp2_with fail
                go_roundw
                case rel => exact ri_join out F g w1 wr _ j rest t1 t2 a1 a2 _ hjl hj1 hj2 Hst.out hrj q0 q1 q2 q3 hrest hb hgl Hnil.out
                case measure => simp [intOf]; omega
              · have hd1 : decide (t1 ≤ a2) = true := decide_eq_true hj1
                have hd2 : decide (a1 ≤ t2) = false := decide_eq_false hj2
                go_wp2_with (at_builtin; refine wpList_append_own _ rfl (.tmp 58) (.tmp 60) 22 rfl (g + 1) 25 i0 _ 2 16 Try.underlying22 hi hz0 hz1 hz2 rfl (by decide) _ rest.length (spCells rest) rfl ((hrest.alloc _).alloc _) ⟨wr.heap.size + 1, 0, none⟩ 1 1 [_, _] rfl rfl (cells_new' (wr.alloc _) _ (by simp) _ _) (spCells_one [(t1, t2)]) (by unfold maxLen; omega) (by omega) (by simp; omega) ?_; intro v1 w2 hown1 hg1 _; obtain ⟨g1, cp1, rfl, _, _⟩ := own_shape hown1 (by omega))
                go_roundw
                case rel => exact ri_app out F g w1 wr w2 _ _ j rest t1 t2 a1 a2 _ _ hjl (fun h => hj2 h.2) Hst.out hrj q0 q1 q2 q3 hrest hb hgl hown1 hg1
                case measure => simp [intOf]; omega
            · have hd1 : decide (t1 ≤ a2) = false := decide_eq_false hj1
              go_wp2_with (at_builtin; refine wpList_append_own _ rfl (.tmp 58) (.tmp 60) 22 rfl (g + 1) 25 i0 _ 2 16 Try.underlying22 hi hz0 hz1 hz2 rfl (by decide) _ rest.length (spCells rest) rfl ((hrest.alloc _).alloc _) ⟨wr.heap.size + 1, 0, none⟩ 1 1 [_, _] rfl rfl (cells_new' (wr.alloc _) _ (by simp) _ _) (spCells_one [(t1, t2)]) (by unfold maxLen; omega) (by omega) (by simp; omega) ?_; intro v1 w2 hown1 hg1 _; obtain ⟨g1, cp1, rfl, _, _⟩ := own_shape hown1 (by omega))
              go_roundw
              case rel => exact ri_app out F g w1 wr w2 _ _ j rest t1 t2 a1 a2 _ _ hjl (fun h => hj1 h.1) Hst.out hrj q0 q1 q2 q3 hrest hb hgl hown1 hg1
              case measure => simp [intOf]; omega
          · have hje : j = out.length := by omega
            subst hje
            rw [List.drop_length, refFold] at hf
            have HR : Hid (rest.take (ahead_ a1 rest) ++ [(a1, a2)] ++ rest.drop (ahead_ a1 rest) = refStep out (s1, s2)) := Lib.hid (by unfold refStep; rw [HF.out, ← hf])
            clear hf
            obtain ⟨w3, rfl⟩ : ∃ w3 : World, w3 = wr := ⟨_, rfl⟩
            have hal := ahead_le a1 rest
            have Hlt := Lib.hid (ahead_lt a1 rest)
            have Hat := Lib.hid (ahead_at' a1 rest)
            obtain ⟨m, hm⟩ : ∃ m, ahead_ a1 rest = m := ⟨_, rfl⟩
            simp only [hm] at hal Hlt Hat HR
            have Hr := Lib.hid (RdS.of_own hrest)
            clear hm
            have hrec : ∀ (W' : World) (V : Value), W'.ownsRow w.heap.size 25 2 V (m + 1 + (rest.length - m)) (spCells (rest.take m) ++ enc2 (a1, a2) ++ spCells (rest.drop m)) → Below w.heap.size w1 W' →
                RMRel l w V (.int .i64 (↑k + 1)) W' := by
              intro W' V h1 h2
              refine ⟨k + 1, by omega, by go_num, ?_, hbo1.trans h2⟩
              have e : refAll (l.take (k + 1)) = rest.take m ++ [(a1, a2)] ++ rest.drop m := by rw [Hta.out, if_pos hs, HR.out]
              rw [e]
              have e1 : (rest.take m ++ [(a1, a2)] ++ rest.drop m).length = m + 1 + (rest.length - m) := by simp; omega
              have e2 : spCells (rest.take m ++ [(a1, a2)] ++ rest.drop m) = spCells (rest.take m) ++ enc2 (a1, a2) ++ spCells (rest.drop m) := by simp [spCells]
              rw [e1, e2]
              exact h1
            have HREC := Lib.hid hrec
            clear hrec
            by_cases hr0 : 0 < rest.length
            · obtain ⟨br, orr, cr, hv, _, _, hbr, hcr⟩ := Hr.out.form hr0
              injection hv with hv1 hv2 hv3
              subst hv1; subst hv3
              have Hcr := Lib.hid hcr
              clear hcr
              go_wp2_with fail
              go_loopw [9] (fun t9 wi => ∃ i : Nat, i ≤ m ∧ t9 = .int .i64 i ∧ Calm w3 wi) (fun t _ => rest.length - (intOf t).toNat)
              case atStart => exact ⟨0, Nat.zero_le _, rfl, Calm.refl _⟩
              case round =>
                obtain ⟨i, him, rfl, hcalm⟩ := hrel
                have f0 : wr.cell? ⟨g, 0, none⟩ = some (.int .i64 a1) := (hcalm.cell _).trans q0
                have f1 : wr.cell? ⟨g, 1, none⟩ = some (.int .i64 a2) := (hcalm.cell _).trans q1
                clear q0 q1
                have hcase : (∃ r : Sp, i < rest.length ∧ i < m ∧ r.1 < a1 ∧ wr.cell? ⟨br, orr + i * 2, none⟩ = some (.int .i64 r.1)) ∨ (∃ r : Sp, i < rest.length ∧ i = m ∧ ¬ r.1 < a1 ∧ wr.cell? ⟨br, orr + i * 2, none⟩ = some (.int .i64 r.1)) ∨ (¬ i < rest.length ∧ i = m) := by
                  rcases Nat.lt_or_ge i rest.length with hir | hir
                  · have hc := (hcalm.cell _).trans (Hcr.out i hir).1
                    rcases Nat.lt_or_ge i m with him2 | him2
                    · obtain ⟨_, hr1⟩ := Hlt.out i him2
                      exact .inl ⟨rest[i], hir, him2, hr1, hc⟩
                    · have hr1 := Hat.out i hir (by omega)
                      exact .inr (.inl ⟨rest[i], hir, by omega, by omega, hc⟩)
                  · exact .inr (.inr ⟨by omega, by omega⟩)
                rcases hcase with ⟨⟨r1, r2⟩, hir, him2, hr1, y0⟩ | ⟨⟨r1, r2⟩, hir, him2, hr1, y0⟩ | ⟨hir, him2⟩
                · have hdl : decide (i < rest.length) = true := decide_eq_true hir
                  have hd1 : decide (r1 < a1) = true := decide_eq_true hr1
                  go_wp2_with fail
                  go_quiet (fail)
                  go_wp2_with fail
                  go_roundw
                  case rel => exact ⟨i + 1, by omega, by go_num, hcalm.drewN _⟩
                  case measure => simp [intOf]; omega
                · subst him2
                  have hr1 : ¬ r1 < a1 := hr1
                  have hdl : decide (i < rest.length) = true := decide_eq_true hir
                  have hd1 : decide (r1 < a1) = false := decide_eq_false hr1
                  go_wp2_with fail
                  go_quiet (fail)
                  go_wp2_with fail
                  obtain ⟨w5, hw5⟩ : ∃ w5, w5 = wr.drewN nq := ⟨_, rfl⟩
                  have x0 : w5.cell? ⟨g, 0, none⟩ = some (.int .i64 a1) := by rw [hw5]; exact f0
                  have x1 : w5.cell? ⟨g, 1, none⟩ = some (.int .i64 a2) := by rw [hw5]; exact f1
                  have b5 : Below w.heap.size w1 w5 := by rw [hw5]; exact (hb.mono hgb).trans (hcalm.below.trans (below_drewN (Below.refl _ _) _))
                  have r5 : RdS w5 (.slice (some ⟨br, orr, none⟩) rest.length c6) rest := by rw [hw5]; exact hcalm.rd Hr.out
                  have hg5 : g < w5.heap.size := by rw [hw5, show (wr.drewN nq).heap.size = wr.heap.size from rfl, hcalm.size]; exact hgl
                  have hw5' : w.heap.size ≤ w5.heap.size := by omega
                  rw [← hw5]
                  clear hw5 f0 f1
                  refine rm18_ok w5 _ g br orr rest.length c6 i a1 a2 rest _ _ _ _ _ _ _ _ _ _ _ _ _ _ _ _ _ _ _ _ _ _ _ _ _ _ _ _ _ _ _ _ _ _ _ _ _ _ _ _ _ _ _ _ _ _ _ _ _ _ _ _ _ _ _ _ _ _ _ _ _ _ _ _ _ _ _ _ _ _ _ _ _ _ _ _ _ _ _ _ _ _ _ _ _ _ _ _ rfl hr6 (by omega) (by omega) x0 x1 hg5 r5 ?_
                  intro V W' u78 u79 u80 u81 u82 u83 u84 u85 u86 u87 u88 u89 hV hB
                  have hF := HREC.out W' V (own_mono' hV hw5') (b5.trans (hB.mono hw5'))
                  have HF2 := Lib.hid hF
                  clear hF hV
                  go_wp2_with fail
                  go_roundw
                  case rel => exact HF2.out
                  case measure => simp [intOf]; omega
                · subst him2
                  have hdl : decide (i < rest.length) = false := decide_eq_false hir
                  go_wp2_with fail
                  go_quiet (fail)
                  go_wp2_with fail
                  obtain ⟨w5, hw5⟩ : ∃ w5, w5 = wr.drewN nq := ⟨_, rfl⟩
                  have x0 : w5.cell? ⟨g, 0, none⟩ = some (.int .i64 a1) := by rw [hw5]; exact f0
                  have x1 : w5.cell? ⟨g, 1, none⟩ = some (.int .i64 a2) := by rw [hw5]; exact f1
                  have b5 : Below w.heap.size w1 w5 := by rw [hw5]; exact (hb.mono hgb).trans (hcalm.below.trans (below_drewN (Below.refl _ _) _))
                  have r5 : RdS w5 (.slice (some ⟨br, orr, none⟩) rest.length c6) rest := by rw [hw5]; exact hcalm.rd Hr.out
                  have hg5 : g < w5.heap.size := by rw [hw5, show (wr.drewN nq).heap.size = wr.heap.size from rfl, hcalm.size]; exact hgl
                  have hw5' : w.heap.size ≤ w5.heap.size := by omega
                  rw [← hw5]
                  clear hw5 f0 f1
                  refine rm18_ok w5 _ g br orr rest.length c6 i a1 a2 rest _ _ _ _ _ _ _ _ _ _ _ _ _ _ _ _ _ _ _ _ _ _ _ _ _ _ _ _ _ _ _ _ _ _ _ _ _ _ _ _ _ _ _ _ _ _ _ _ _ _ _ _ _ _ _ _ _ _ _ _ _ _ _ _ _ _ _ _ _ _ _ _ _ _ _ _ _ _ _ _ _ _ _ _ _ _ _ _ rfl hr6 (by omega) (by omega) x0 x1 hg5 r5 ?_
                  intro V W' u78 u79 u80 u81 u82 u83 u84 u85 u86 u87 u88 u89 hV hB
                  have hF := HREC.out W' V (own_mono' hV hw5') (b5.trans (hB.mono hw5'))
                  have HF2 := Lib.hid hF
                  clear hF hV
                  go_wp2_with fail
                  go_roundw
                  case rel => exact HF2.out
                  case measure => simp [intOf]; omega
            · have hrn : rest = [] := List.eq_nil_of_length_eq_zero (by omega)
              subst hrn
              have hnl := Hnil.out rfl
              injection hnl with hn1 hn2 hn3
              subst hn1; subst hn3
              obtain rfl : m = 0 := by simp at hal; exact hal
              clear Hnil Hr Hlt Hat hr0 hrj hr6 hc6 hal hn2
              have hb3 : Below w.heap.size w1 w3 := hb.mono hgb
              go_wp2_with fail
              refine wp_loop_rounds 1 ?_
              rw [rounds_succ]
              go_wp2_with fail
              go_quiet (fail)
              go_wp2_with fail
              obtain ⟨w5, hw5⟩ : ∃ w5, w5 = w3.drewN nq := ⟨_, rfl⟩
              have x0 : w5.cell? ⟨g, 0, none⟩ = some (.int .i64 a1) := by rw [hw5]; exact q0
              have x1 : w5.cell? ⟨g, 1, none⟩ = some (.int .i64 a2) := by rw [hw5]; exact q1
              have b5 : Below w.heap.size w1 w5 := by rw [hw5]; exact below_drewN hb3 _
              have hg5 : g < w5.heap.size := by rw [hw5]; exact hgl
              rw [← hw5]
              clear hw5 q0 q1
              refine rm18_nil w5 _ g a1 a2 _ _ _ _ _ _ _ _ _ _ _ _ _ _ _ _ _ _ _ _ _ _ _ _ _ _ _ _ _ _ _ _ _ _ _ _ _ _ _ _ _ _ _ _ _ _ _ _ _ _ _ _ _ _ _ _ _ _ _ _ _ _ _ _ _ _ _ _ _ _ _ _ _ _ _ _ _ _ _ _ _ _ _ _ _ _ _ _ x0 x1 hg5 ?_
              intro V W' u78 u79 u80 u81 u82 u83 u84 u85 u86 u87 u88 u89 hV hB
              have hF := HREC.out W' V (by simpa [spCells] using own_mono' hV (by omega)) (b5.trans (hB.mono (by omega)))
              have HF2 := Lib.hid hF
              clear hF hV
              go_wp2_with fail
              go_roundw
              case rel => exact HF2.out
              case measure => simp [intOf]; omega
      · have hd : decide (s2 ≤ s1) = true := decide_eq_true (by omega)
        go_wp2_with fail
        go_roundw
        case rel =>
          refine ⟨k + 1, by omega, by go_num, ?_, hbw.alloc hbw.size _⟩
          rw [Hta.out, if_neg hs]
          exact hown.alloc _
        case measure => simp [intOf]; omega
    · have hke : k = l.length := by omega
      subst hke
      rw [List.take_length] at hown
      have HO := Lib.hid hown
      clear hown
      go_wp2_with fail
      go_ret
      exact ⟨u3, rfl, HO.out, hbw⟩
set_option maxHeartbeats 1000000 in
set_option maxRecDepth 100000 in
theorem rmerge_nil (w : World) (A : Option Addr) (c : Nat) : Calls Try.prog 15 #[.slice A 0 c] w fun e w' => e = .returned (.slice none 0 0) ∧ w = w' := by
  go_enter Try.func15, Try.ntmps15
  go_wp2_with fail
  refine wp_loop_rounds 1 ?_
  rw [rounds_succ]
  go_wp2_with fail
  go_ret
  exact ⟨rfl, rfl⟩
/-- What the answer's Merge owes: the one merged list, in memory of its own. -/
def RMergePost (l : List Sp) (w : World) (e : Ending) (w' : World) : Prop :=
  ∃ v M, e = .returned v ∧ w'.ownsRow w.heap.size 25 2 v M.length (spCells M) ∧ Canon M ∧ (∀ i, Cov i M ↔ Cov i l) ∧ Below w.heap.size w w'
theorem rmerge_all (w : World) (v : Value) (l : List Sp) (h : RdS w v l) (hl : l.length ≤ 1000000) : Calls Try.prog 15 #[v] w (RMergePost l w) := by
  obtain ⟨r1, r2⟩ := refAll_ok l
  by_cases h0 : 0 < l.length
  · refine (rmerge_any w v l h hl h0).mono ?_
    rintro e w' ⟨v', he, hown, hb⟩
    exact ⟨v', refAll l, he, hown, r1, r2, hb⟩
  · have hl0 : l = [] := List.eq_nil_of_length_eq_zero (by omega)
    subst hl0
    obtain ⟨A, c, rfl⟩ := h.nil
    refine (rmerge_nil w A c).mono ?_
    rintro e w' ⟨he, rfl⟩
    exact ⟨_, [], he, World.ownsRow_nil _ _ _ _, ⟨by simp, by simp⟩, fun i => Iff.rfl, Below.refl _ _⟩
end Go.Proofs.Ytlifkfihpmkffaa
