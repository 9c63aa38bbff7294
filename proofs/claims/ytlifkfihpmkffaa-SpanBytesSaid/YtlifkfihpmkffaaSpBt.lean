/- The answer's Texts at the parts of a text; the walk of the law SpanBytes. -/
import Derived.Test.YtlifkfihpmkffaaSpI3
import Derived.Test.YtlifkfihpmkffaaSpW
import Derived.Test.YtlifkfihpmkffaaSpD
import Derived.Test.YtlifkfihpmkffaaSpU
namespace Go.Proofs.Ytlifkfihpmkffaa
open Go.RowKit

def RdC (w : World) (v : Value) (text : ByteArray) (l : List Sp) : Prop := Rd w 1 v l.length (cutCells text l)
theorem RdC.form {w : World} {v : Value} {text : ByteArray} {l : List Sp} (h : RdC w v text l) (hn : 0 < l.length) : ∃ b off cap, v = .slice (some ⟨b, off, none⟩) l.length cap ∧ b < w.heap.size ∧ ∀ i (hi : i < l.length), w.cell? ⟨b, off + i, none⟩ = some (.string (text.extract l[i].1.toNat l[i].2.toNat)) := by
  rcases h.2 with ⟨h0, _⟩ | ⟨b, off, cap, rfl, _, _, hlt, hc⟩
  · omega
  · exact ⟨b, off, cap, rfl, hlt, fun i hi => hc i _ (by simp [cutCells, hi])⟩
theorem RdC.slice {w : World} {v : Value} {text : ByteArray} {l : List Sp} (h : RdC w v text l) : ∃ A c, v = .slice A l.length c := by
  rcases h.2 with ⟨h0, A, c, rfl⟩ | ⟨b, off, cap, rfl, _⟩
  · exact ⟨A, c, by rw [h0]⟩
  · exact ⟨_, _, rfl⟩
set_option maxHeartbeats 1000000 in
set_option maxRecDepth 100000 in
theorem texts_yes (w : World) (v v' : Value) (text : ByteArray) (l : List Sp) (h1 : RdC w v text l) (h2 : RdC w v' text l) (hm : l.length ≤ 1000000) :
    Calls Try.prog 20 #[v, v'] w fun e w' => e = .returned (.bool true) ∧ Below w.heap.size w w' := by
  obtain ⟨A, c, rfl⟩ := h1.slice
  obtain ⟨A', c', rfl⟩ := h2.slice
  have hb : ((l.length : Int) != (l.length : Int)) = false := by simp
  have H1 := Lib.hid h1
  have H2 := Lib.hid h2
  clear h1 h2
  go_enter Try.func20, Try.ntmps20
  go_wp2_with fail
  go_loopw [5] (fun t wr => ∃ k : Nat, k ≤ l.length ∧ t = .int .i64 k ∧ Below w.heap.size w wr) (fun t _ => l.length - (intOf t).toNat)
  case atStart => exact ⟨0, Nat.zero_le _, rfl, Below.refl _ _⟩
  case round =>
    obtain ⟨k, hk, rfl, hbw⟩ := hrel
    by_cases hkl : k < l.length
    · obtain ⟨b, off, cap, hv, hlt, hc⟩ := H1.out.form (by omega)
      injection hv with hA _ hcc
      subst hA; subst hcc
      have e0 := (hbw.cell (p := ⟨b, off + k, none⟩) hlt).trans (hc k hkl)
      clear hc
      obtain ⟨b', off', cap', hv, hlt', hc⟩ := H2.out.form (by omega)
      injection hv with hA _ hcc
      subst hA; subst hcc
      have e1 := (hbw.cell (p := ⟨b', off' + k, none⟩) hlt').trans (hc k hkl)
      clear hc
      have hkl2 : (k : Int) < (l.length : Int) := by omega
      generalize text.extract l[k].1.toNat l[k].2.toNat = s at *
      go_wp2_with fail
      go_quiet (fail)
      go_wp2_with fail
      go_roundw
      case rel => exact ⟨k + 1, by omega, by go_num, below_drewN hbw _⟩
      case measure => simp [intOf]; omega
    · go_wp2_with fail
      go_ret
      exact ⟨rfl, hbw⟩
theorem cnt_bound (p : Int → Bool) (n : Nat) : 0 ≤ cnt p n ∧ cnt p n ≤ n := by
  induction n with
  | zero => simp [cnt]
  | succ n ih => rw [cnt]; split <;> omega
theorem cnt_next (p : Int → Bool) (n k : Nat) (z c : Int) (hz : z + 1 = k) (hc : c = cnt p (min (k - 1) n)) : (if p z = true ∧ 0 ≤ z ∧ z < n then c + 1 else c) = cnt p (min (k + 1 - 1) n) := by
  subst hc
  by_cases h : 0 ≤ z ∧ z < n
  · obtain ⟨h1, h2⟩ := h
    have e1 : min (k - 1) n = k - 1 := by omega
    have e2 : min (k + 1 - 1) n = (k - 1) + 1 := by omega
    have e3 : ((k - 1 : Nat) : Int) = z := by omega
    rw [e1, e2, cnt, e3]
    by_cases hp : p z = true
    · rw [if_pos ⟨hp, h1, h2⟩, if_pos hp]
    · rw [if_neg (fun h => hp h.1), if_neg hp]; omega
  · rw [if_neg (fun hh => h hh.2)]
    congr 1
    omega
theorem hasSp_B (i : Int) (l : List Sp) : l.any (hasSp i) = hasB l i := rfl
set_option maxHeartbeats 4000000 in
set_option maxRecDepth 100000 in
theorem spanBytes_walk (w : World) (va : Value) (text : ByteArray) (ha : ArgS w va) :
    Calls Try.prog 4 #[va, .string text] w fun e w' => e = .returned (.bool true) ∧ Below w.heap.size w w' := by
  obtain ⟨l, ha⟩ := ha
  obtain ⟨Aa, ca, rfl⟩ := ha.slice
  by_cases hbig : l.length ≤ 40 ∧ text.size ≤ 200
  · obtain ⟨i1, i2⟩ := hbig
    have j1 : ¬ (40 : Int) < (l.length : Int) := by omega
    have j2 : ¬ (200 : Int) < (text.size : Int) := by omega
    have Ha := Lib.hid ha
    clear ha
    go_enter Try.func4, Try.ntmps4
    go_wp2_with fail
    go_loopw [5, 6] (fun t5 t6 wr => ∃ (k : Nat) (z c : Int), k ≤ text.size + 2 ∧ z + 1 = k ∧ t6 = .int .i64 z ∧ t5 = .int .i64 c ∧ c = cnt (hasB l) (min (k - 1) text.size) ∧ Below w.heap.size w wr) (fun _ t _ => text.size + 2 - (intOf t + 1).toNat)
    case atStart => exact ⟨0, _, _, by omega, by omega, rfl, rfl, rfl, Below.refl _ _⟩
    case round =>
      obtain ⟨k, z, c, hk, hz, rfl, rfl, hc, hbw⟩ := hrel
      have HZ := Lib.hid hz
      have HC := Lib.hid hc
      have hcb : 0 ≤ c ∧ c ≤ 200 := by
        rw [hc]
        have := cnt_bound (hasB l) (min (k - 1) text.size)
        omega
      obtain ⟨hc0, hc1⟩ := hcb
      have hl : Hid (RdS wr (.slice Aa l.length ca) l) := Lib.hid (RdS.below Ha.out hbw)
      by_cases hks : k ≤ text.size + 1
      · have d1 : z ≤ (text.size : Int) := by omega
        have d0 : -1 ≤ z := by omega
        clear hz hc
        go_wp2_with fail
        refine (rhas_any _ _ _ l hl.out (by omega)).mono ?_
        rintro e w' ⟨rfl, rfl⟩
        have hh := has_any z wr _ l hl.out (by omega)
        rw [hasSp_B] at hh
        obtain ⟨q, hq⟩ : ∃ q, hasB l z = q := ⟨_, rfl⟩
        rw [hq] at hh ⊢
        have HQ := Lib.hid hq
        clear hq
        go_wp2_with fail
        refine hh.mono ?_
        rintro e w2 ⟨rfl, b2⟩
        clear hh
        have bb : Hid (Below w.heap.size w w2) := Lib.hid (hbw.trans (b2.mono hbw.size))
        have hqc : (q = true ∧ 0 ≤ z ∧ z < text.size) ∨ (q = true ∧ 0 ≤ z ∧ ¬ z < text.size) ∨ (q = true ∧ ¬ 0 ≤ z) ∨ q = false := by
          cases q <;> simp <;> omega
        have HN := Lib.hid (cnt_next (hasB l) text.size k z c HZ.out HC.out)
        have hks2 : k + 1 ≤ text.size + 2 := by omega
        rcases hqc with ⟨rfl, g1, g2⟩ | ⟨rfl, g1, g2⟩ | ⟨rfl, g1⟩ | rfl
        · have f1 : decide (0 ≤ z) = true := decide_eq_true g1
          have f2 : decide (z < (text.size : Int)) = true := decide_eq_true g2
          go_wp2_with fail
          go_roundw
          case rel => exact ⟨k + 1, z + 1, c + 1, hks2, by have := HZ.out; omega, rfl, rfl, by rw [← HN.out, if_pos ⟨HQ.out, g1, g2⟩], bb.out⟩
          case measure => simp [intOf]; omega
        · have f1 : decide (0 ≤ z) = true := decide_eq_true g1
          have f2 : decide (z < (text.size : Int)) = false := decide_eq_false g2
          go_wp2_with fail
          go_roundw
          case rel => exact ⟨k + 1, z + 1, c, hks2, by have := HZ.out; omega, rfl, rfl, by rw [← HN.out, if_neg (by omega)], bb.out⟩
          case measure => simp [intOf]; omega
        · have f1 : decide (0 ≤ z) = false := decide_eq_false g1
          go_wp2_with fail
          go_roundw
          case rel => exact ⟨k + 1, z + 1, c, hks2, by have := HZ.out; omega, rfl, rfl, by rw [← HN.out, if_neg (by omega)], bb.out⟩
          case measure => simp [intOf]; omega
        · go_wp2_with fail
          go_roundw
          case rel => exact ⟨k + 1, z + 1, c, hks2, by have := HZ.out; omega, rfl, rfl, by rw [← HN.out, if_neg (fun h => by rw [HQ.out] at h; cases h.1)], bb.out⟩
          case measure => simp [intOf]; omega
      · have d1 : ¬ z ≤ (text.size : Int) := by omega
        have d2 : decide (z ≤ (text.size : Int)) = false := decide_eq_false d1
        have hcn : cnt (hasB l) text.size = c := by rw [hc]; congr 1; omega
        have hco := count_any text.size wr _ l hl.out (by omega) (by omega)
        rw [hcn] at hco
        have HCO := Lib.hid hco
        clear hz hc hcn hco HC HZ
        go_wp2_with fail
        refine HCO.out.mono ?_
        rintro e w1 ⟨rfl, b1⟩
        have hl1 : Hid (RdS w1 (.slice Aa l.length ca) l) := Lib.hid (RdS.below hl.out b1)
        have bb1 : Hid (Below w.heap.size w w1) := Lib.hid (hbw.trans (b1.mono hbw.size))
        clear b1 hl HCO hbw
        go_wp2_with fail
        refine (cut_any text w1 _ l hl1.out (by omega) (by omega)).mono ?_
        rintro e w2 ⟨vp, M, rfl, hcM, hvM, own2, b2⟩
        have hl2 : Hid (RdS w2 (.slice Aa l.length ca) l) := Lib.hid (RdS.below hl1.out b2)
        have bb2 : Hid (Below w.heap.size w w2) := Lib.hid (bb1.out.trans (b2.mono bb1.out.size))
        have hp2 : Hid (RdC w2 vp text (insideL text.size M)) := Lib.hid (Rd.of_own own2)
        have hcM' := Lib.hid hcM
        have hvM' := Lib.hid hvM
        clear own2 b2 hl1 bb1 hcM hvM
        go_wp2_with fail
        refine (rcut_any text w2 _ l hl2.out (by omega) (by omega)).mono ?_
        rintro e w3 ⟨vq, R, rfl, hcR, hvR, own3, b3⟩
        have hRM : insideL text.size M = R := Canon.unique _ _ (insideL_canon _ _ hcM'.out) hcR fun i => by
          rw [insideL_cov, hvR, hvM'.out]
        have bb3 : Hid (Below w.heap.size w w3) := Lib.hid (bb2.out.trans (b3.mono bb2.out.size))
        have hp3 : Hid (RdC w3 vp text R) := Lib.hid (by rw [← hRM]; exact Rd.below hp2.out b3)
        have hq3 : Hid (RdC w3 vq text R) := Lib.hid (Rd.of_own own3)
        have hRl : R.length ≤ 1000000 := by
          have h1 := insideL_length text.size M
          have h2 := canon_len M l hcM'.out hvM'.out
          rw [hRM] at h1
          omega
        clear own3 b3 hp2 hl2 bb2 hcR hvR hRM
        go_wp2_with fail
        refine (texts_yes w3 _ _ text R hp3.out hq3.out hRl).mono ?_
        rintro e w4 ⟨rfl, b4⟩
        have bb4 : Hid (Below w.heap.size w w4) := Lib.hid (bb3.out.trans (b4.mono bb3.out.size))
        clear b4
        go_wp2_with (go_at_call 12; refine (awake1 _).mono ?_; rintro e w5 ⟨rfl, b5⟩)
        go_ret
        exact ⟨rfl, bb4.out.trans (b5.mono bb4.out.size)⟩
  · have hor : (40 : Int) < (l.length : Int) ∨ (¬ (40 : Int) < (l.length : Int) ∧ (200 : Int) < (text.size : Int)) := by omega
    clear hbig ha
    rcases hor with h | ⟨h, h'⟩
    all_goals
      go_enter Try.func4, Try.ntmps4
      go_wp2_with (go_at_call 12; refine (awake1 _).mono ?_; rintro e w' ⟨rfl, hb⟩)
      go_ret
      exact ⟨rfl, hb⟩
end Go.Proofs.Ytlifkfihpmkffaa
