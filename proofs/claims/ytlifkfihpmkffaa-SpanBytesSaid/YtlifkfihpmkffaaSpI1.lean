/- The contracts of the answer's Has and of span.Count. -/
import Derived.Test.YtlifkfihpmkffaaSpI0
import Derived.Test.YtlifkfihpmkffaaSpC
import Derived.Deep.QuietTactic
import Derived.BigQuiet
namespace Go.Proofs.Ytlifkfihpmkffaa
open Go.RowKit

theorem hasB_take (l : List Sp) (i : Int) (k : Nat) (hk : k < l.length) : hasB (l.take (k + 1)) i = (hasB (l.take k) i || (decide (l[k].1 ≤ i) && decide (i < l[k].2))) := by
  unfold hasB
  rw [List.take_succ_eq_append_getElem hk, List.any_append]
  simp
set_option maxHeartbeats 1000000 in
set_option maxRecDepth 100000 in
theorem rhas_any (i : Int) (w : World) (v : Value) (l : List Sp) (h : RdS w v l) (hl : l.length ≤ 1000000) :
    Calls Try.prog 17 #[.int .i64 i, v] w fun e w' => e = .returned (.bool (hasB l i)) ∧ w = w' := by
  obtain ⟨A, c, rfl⟩ := h.slice
  have H := Lib.hid h
  clear h
  go_enter Try.func17, Try.ntmps17
  go_wp2_with fail
  go_loop [5] (fun t => ∃ k : Nat, k ≤ l.length ∧ t = .int .i64 k ∧ hasB (l.take k) i = false) (fun t => l.length - (intOf t).toNat)
  case atStart => exact ⟨0, Nat.zero_le _, rfl, rfl⟩
  case round =>
    obtain ⟨k, hk, rfl, hno⟩ := hrel
    have Hno := Lib.hid hno
    clear hno
    by_cases hkl : k < l.length
    · obtain ⟨b, off, cap, hv, _, _, hlt, hc⟩ := H.out.form (by omega)
      injection hv with hA _ hcc
      subst hA; subst hcc
      obtain ⟨e0, e1⟩ := hc k hkl
      clear hc
      have ht := hasB_take l i k hkl
      have hmem : l[k] ∈ l := List.getElem_mem hkl
      have hyes : l[k].1 ≤ i → i < l[k].2 → hasB l i = true := fun h1 h2 => (hasB_cov l i).2 ⟨_, hmem, h1, h2⟩
      generalize l[k] = s at *
      obtain ⟨s1, s2⟩ := s
      rw [Hno.out] at ht
      have Ht := Lib.hid ht
      have Hy := Lib.hid hyes
      clear ht hyes hmem
      by_cases g1 : s1 ≤ i
      · by_cases g2 : i < s2
        · have d1 : decide (s1 ≤ i) = true := decide_eq_true g1
          have d2 : decide (i < s2) = true := decide_eq_true g2
          go_wp2_with fail
          go_ret
          exact ⟨sret_bool (Hy.out g1 g2).symm, rfl⟩
        · have d1 : decide (s1 ≤ i) = true := decide_eq_true g1
          have d2 : decide (i < s2) = false := decide_eq_false g2
          go_wp2_with fail
          go_round
          case rel => exact ⟨k + 1, by omega, by go_num, by rw [Ht.out]; simp; omega⟩
          case measure => simp [intOf]; omega
      · have d1 : decide (s1 ≤ i) = false := decide_eq_false g1
        go_wp2_with fail
        go_round
        case rel => exact ⟨k + 1, by omega, by go_num, by rw [Ht.out]; simp; omega⟩
        case measure => simp [intOf]; omega
    · have hall : hasB l i = false := by
        have := Hno.out
        rwa [List.take_of_length_le (by omega)] at this
      have Hall := Lib.hid hall
      clear hall
      go_wp2_with fail
      go_ret
      exact ⟨sret_bool Hall.out.symm, rfl⟩
/-- What the visitor of Count does. -/
def CountInv (n : Int) (bv : Nat) (W0 : World) (done : List Sp) (W : World) : Prop :=
  W.cell? ⟨bv, 0, none⟩ = some (.int .i64 (sumLen done)) ∧ W.frozen? ⟨bv, 0, none⟩ = false ∧ Mid bv W0.heap.size W0 W ∧ (∀ s ∈ done, 0 ≤ s.2 - s.1 ∧ s.2 - s.1 ≤ n)
theorem CountInv.keep {n : Int} {bv : Nat} {W0 : World} {done : List Sp} {W W' : World} (h : CountInv n bv W0 done W) (hb : Below W.heap.size W W') (hlt : bv < W0.heap.size) : CountInv n bv W0 done W' := by
  obtain ⟨h1, h2, h3, h4⟩ := h
  have hs := h3.size
  exact ⟨(hb.cell (p := ⟨bv, 0, none⟩) (by show bv < _; omega)).trans h1, (hb.frozen (p := ⟨bv, 0, none⟩) (by show bv < _; omega)).trans h2, h3.trans (Mid.of_below (hb.mono hs)), h4⟩
set_option maxHeartbeats 1000000 in
set_option maxRecDepth 100000 in
theorem count_step (n : Int) (bv : Nat) (W0 W : World) (done : List Sp) (a b : Int) (hlt : bv < W0.heap.size) (hn : n ≤ 1000) (hd : done.length ≤ 1000000) (h0 : 0 ≤ a) (hab : a < b) (hbn : b ≤ n) (h : CountInv n bv W0 done W) :
    Calls Try.prog 44 #[.agg #[.int .i64 a, .int .i64 b], .pointer (some ⟨bv, 0, none⟩)] W fun e w' => e = .returned (.tuple #[]) ∧ CountInv n bv W0 (done ++ [(a, b)]) w' := by
  obtain ⟨h1, h2, h3, h4⟩ := h
  obtain ⟨b1, b2⟩ := sumLen_bound n done h4
  have hs := sumLen_snoc done (a, b)
  have hbv : bv < W.heap.size := by have := h3.size; omega
  have hm : (done.length : Int) * n ≤ 1000000 * 1000 := Int.mul_le_mul (by omega) hn (by omega) (by omega)
  have hne : bv ≠ W.heap.size := by omega
  generalize sumLen done = S at *
  have HS := Lib.hid hs
  have H3 := Lib.hid h3
  have H4 := Lib.hid h4
  clear hs h3 h4
  have hb2 : S ≤ 1000000000 := by omega
  clear hm b2
  go_enter Try.func44, Try.ntmps44
  go_wp2_with fail
  go_end0
  refine ⟨rfl, ?_, by go_simp, ?_, ?_⟩
  · rw [HS.out]; go_simp
  · exact (H3.out.set_ _).trans (Mid.of_below ((Below.refl _ _).alloc (by simp; exact H3.out.size) _))
  · intro s hs
    rcases List.mem_append.1 hs with hs | hs
    · exact H4.out s hs
    · simp at hs; subst hs; simp only; omega
theorem CountInv.mid {n : Int} {bv : Nat} {W0 : World} {done : List Sp} {W : World} (h : CountInv n bv W0 done W) : Mid bv W0.heap.size W0 W := h.2.2.1
set_option maxHeartbeats 2000000 in
set_option maxRecDepth 100000 in
theorem inside_count (n : Int) (w : World) (v : Value) (l : List Sp) (bv : Nat) (h : RdS w v l) (hl : l.length ≤ 1000000) (hn0 : 0 ≤ n) (hn : n ≤ 1000) (hlt : bv < w.heap.size)
    (hstart : ∀ W0, Below w.heap.size w W0 → CountInv n bv W0 [] W0) :
    Calls Try.prog 43 #[.int .i64 n, v, .func (.func 44) #[] #[.pointer (some ⟨bv, 0, none⟩)]] w fun e w' => e = .returned (.tuple #[]) ∧ ∃ M W0, Canon M ∧ (∀ i, Cov i M ↔ Cov i l) ∧ M.length ≤ 1000000 ∧ Below w.heap.size w W0 ∧ CountInv n bv W0 (insideL n M) w' := by
  have HST := Lib.hid hstart
  clear hstart
  go_enter Try.func43, Try.ntmps43
  go_wp2_with fail
  refine (merge_any w v l h hl).mono ?_
  rintro e w1 ⟨v1, M, rfl, own1, can1, cov1, b1⟩
  have hM : M.length ≤ 1000000 := by have := canon_len _ _ can1 cov1; omega
  have C1 := Lib.hid can1
  have V1 := Lib.hid cov1
  have RM : Hid (RdS w1 v1 M) := Lib.hid (RdS.of_own own1)
  have hst := HST.out w1 b1
  have hlt1 : bv < w1.heap.size := by have := b1.size; omega
  obtain ⟨A1, c1, rfl⟩ := RM.out.slice
  have hgM : Hid (0 < M.length → ∃ g, A1 = some ⟨g, 0, none⟩ ∧ w.heap.size ≤ g) := Lib.hid (fun h0 => by
    obtain ⟨g, c, hv, hg, _⟩ := own_shape own1 h0
    injection hv with hv1
    exact ⟨g, hv1, hg⟩)
  have B1 := Lib.hid b1
  clear own1 can1 cov1 b1 h HST
  go_wp2_with fail
  go_loopw [12] (fun t wr => ∃ k : Nat, k ≤ M.length ∧ t = .int .i64 k ∧ CountInv n bv w1 (insideL n (M.take k)) wr) (fun t _ => M.length - (intOf t).toNat)
  case atStart => exact ⟨0, Nat.zero_le _, rfl, hst⟩
  case round =>
    clear hst
    obtain ⟨k, hk, rfl, hinv⟩ := hrel
    have hmid := hinv.mid
    have hsz := hmid.size
    have HINV := Lib.hid hinv
    clear hinv
    by_cases hkl : k < M.length
    · obtain ⟨b, off, cap, hv, _, _, hbl, hc⟩ := RM.out.form (by omega)
      obtain ⟨g, hg1, hg2⟩ := hgM.out (by omega)
      injection hv with hA _ hcc
      subst hA; subst hcc
      injection hg1 with hg1
      injection hg1 with hg1 hg3
      obtain ⟨d0, d1⟩ := hc k hkl
      clear hc
      have hblk := hmid.block b hbl (by omega)
      rw [← World.cell?_of_block (a := ⟨b, off + k * 2, none⟩) hblk] at d0
      rw [← World.cell?_of_block (a := ⟨b, off + k * 2 + 1, none⟩) hblk] at d1
      have htk := insideL_take n M k hkl
      have hil : (insideL n (M.take k)).length ≤ 1000000 := by have := insideL_length n (M.take k); simp at this; omega
      generalize M[k] = s at *
      obtain ⟨s1, s2⟩ := s
      obtain ⟨a, ha⟩ : ∃ a, max s1 0 = a := ⟨_, rfl⟩
      obtain ⟨b', hb'⟩ : ∃ b', min s2 n = b' := ⟨_, rfl⟩
      have hcl : clip n (s1, s2) = (a, b') := by simp only [clip, ha, hb']
      rw [hcl] at htk
      have ha0 : 0 ≤ a := by omega
      have hbn : b' ≤ n := by omega
      have Htk := Lib.hid htk
      clear htk hcl hblk hg1 hg3 hg2
      have hbw : b < wr.heap.size := by omega
      go_wp2_with fail
      clear ha hb'
      have hI2 : ∀ w3, Below wr.heap.size wr w3 → CountInv n bv w1 (insideL n (M.take k)) w3 := fun w3 h => HINV.out.keep h hlt1
      have HI2 := Lib.hid hI2
      clear hI2
      by_cases hab : a < b'
      · have hd : decide (a < b') = true := decide_eq_true hab
        refine (hasBytes_any _ _ _).mono ?_
        rintro e w3 ⟨rfl, hb3⟩
        have hb3' : Below wr.heap.size wr w3 := (((Below.refl _ _).alloc (Nat.le_refl _) _).alloc (by simp) _).trans (hb3.mono (by simp <;> omega))
        have j0 : w3.cell? ⟨wr.heap.size + 1, 0, none⟩ = some (.int .i64 a) := (hb3.cell (p := ⟨wr.heap.size + 1, 0, none⟩) (by simp)).trans (by go_simp)
        have j1 : w3.cell? ⟨wr.heap.size + 1, 1, none⟩ = some (.int .i64 b') := (hb3.cell (p := ⟨wr.heap.size + 1, 1, none⟩) (by simp)).trans (by go_simp)
        clear hb3
        go_wp2_with fail
        refine (count_step n bv w1 w3 _ a b' hlt1 hn hil ha0 hab hbn (HI2.out w3 hb3')).mono ?_
        rintro e w4 ⟨rfl, hinv4⟩
        have HI4 := Lib.hid hinv4
        clear hinv4
        go_wp2_with fail
        go_roundw
        case rel => exact ⟨k + 1, by omega, by go_num, by rw [Htk.out, if_pos hab]; exact HI4.out⟩
        case measure => simp [intOf]; omega
      · have hd : decide (a < b') = false := decide_eq_false hab
        refine (hasBytes_any _ _ _).mono ?_
        rintro e w3 ⟨rfl, hb3⟩
        have hb3' : Below wr.heap.size wr w3 := (((Below.refl _ _).alloc (Nat.le_refl _) _).alloc (by simp) _).trans (hb3.mono (by simp <;> omega))
        clear hb3
        go_wp2_with fail
        go_roundw
        case rel => exact ⟨k + 1, by omega, by go_num, by rw [Htk.out, if_neg (by omega)]; exact HI2.out w3 hb3'⟩
        case measure => simp [intOf]; omega
    · have hke : k = M.length := by omega
      subst hke
      have hi := HINV.out
      rw [List.take_length] at hi
      have HI := Lib.hid hi
      clear hi HINV
      go_wp2_with fail
      go_end0
      exact ⟨rfl, M, w1, C1.out, V1.out, hM, B1.out, HI.out⟩
set_option maxHeartbeats 1000000 in
set_option maxRecDepth 100000 in
theorem count_any (n : Nat) (w : World) (v : Value) (l : List Sp) (h : RdS w v l) (hl : l.length ≤ 1000000) (hn : n ≤ 1000) :
    Calls Try.prog 19 #[.int .i64 n, v] w fun e w' => e = .returned (.int .i64 (cnt (hasB l) n)) ∧ Below w.heap.size w w' := by
  have h1 : RdS (w.alloc (.cells #[.int .i64 0] 3)) v l := Rd.alloc h _
  have hcon := inside_count n (w.alloc (.cells #[.int .i64 0] 3)) v l w.heap.size h1 hl (by omega) (by omega) (by simp) (fun W0 hb => by
    have hz := hb.size
    simp at hz
    exact ⟨(hb.cell (p := ⟨w.heap.size, 0, none⟩) (by simp)).trans (by go_simp; simp [sumLen]), (hb.frozen (p := ⟨w.heap.size, 0, none⟩) (by simp)).trans (by go_simp), Mid.refl _ _ _, by simp⟩)
  have HC := Lib.hid hcon
  clear hcon h h1
  go_enter Try.func19, Try.ntmps19
  go_wp2_with fail
  refine HC.out.mono ?_
  rintro e w1 ⟨rfl, M, W0, hc, hcov, _, hb, h1, h2, h3, h4⟩
  have hs := count_ok n M l hc hcov
  rw [hs] at h1
  have hb2 : Below w.heap.size w w1 := ((Below.refl _ _).alloc (Nat.le_refl _) _).trans ((hb.mono (by simp)).trans (h3.below (by have := hb.size; simp at this; omega)))
  clear hc hcov hb h3 h4 hs HC
  go_wp2_with fail
  go_ret
  exact ⟨rfl, hb2⟩
end Go.Proofs.Ytlifkfihpmkffaa
