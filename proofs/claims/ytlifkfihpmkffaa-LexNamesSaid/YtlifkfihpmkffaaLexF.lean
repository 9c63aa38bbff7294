/- The contract of the document's examples for package lex: they hold. -/
import Derived.Test.YtlifkfihpmkffaaLexE
import Derived.Deep.QuietTactic
import Derived.BigQuiet
namespace Go.Proofs.Ytlifkfihpmkffaa
open Go.RowKit

theorem ex1 : wordsE (bs ⟨#[120, 45, 62, 49]⟩) = .ok [(1, 0, 1), (4, 1, 3), (2, 3, 4)] := by kernel_rfl
theorem ex2 : wordsE (bs ⟨#[120, 32, 48, 48, 55]⟩) = .error (2, 3) := by kernel_rfl
theorem ex1_text : (⟨#[120, 45, 62, 49]⟩ : ByteArray).extract 1 3 = ⟨#[45, 62]⟩ := by apply bs_inj; kernel_rfl

set_option maxHeartbeats 1000000 in
set_option maxRecDepth 100000 in
theorem awake2 (w : World) : Calls Try.prog 28 #[] w fun e w' => e = .returned (.bool true) ∧ Below w.heap.size w w' := by
  go_enter Try.func28, Try.ntmps28
  go_wp2_with fail
  refine (words_any _ _ (by decide)).mono ?_
  rintro e w1 ⟨hb1, h1⟩
  rw [ex1] at h1
  obtain ⟨v, rfl, hown⟩ := h1
  rcases (Rd.of_own hown).2 with ⟨h, _⟩ | ⟨b, off, cap, rfl, hnc, hcm, hlt, hc⟩
  · simp at h
  have c5 := hc 5 (.string ⟨#[45, 62]⟩) (by rw [← ex1_text]; rfl)
  have c12 := hc 12 (.int .i64 0) rfl
  clear hc hown
  go_wp2_with fail
  refine (words_any _ _ (by decide)).mono ?_
  rintro e w2 ⟨hb2, h2⟩
  rw [ex2] at h2
  obtain rfl := h2
  have c5' := (hb2.cell (p := ⟨b, off + 5, none⟩) hlt).trans c5
  have c12' := (hb2.cell (p := ⟨b, off + 12, none⟩) hlt).trans c12
  clear c5 c12
  go_wp2_with fail
  go_ret
  exact ⟨rfl, hb1.trans (hb2.mono hb1.size)⟩
/-- A token as values: kind, text, span. -/
abbrev TV := Int × ByteArray × Int × Int
def tvCells (t : TV) : List Value := [.int .i64 t.1, .string t.2.1, .int .i64 t.2.2.1, .int .i64 t.2.2.2]
def tvsCells (ts : List TV) : List Value := ts.flatMap tvCells
def RdT (w : World) (v : Value) (ts : List TV) : Prop := Rd w 4 v ts.length (tvsCells ts)
theorem flat4 (ts : List TV) (i j : Nat) (hi : i < ts.length) (hj : j < 4) : (tvsCells ts)[i * 4 + j]? = (tvCells ts[i])[j]? := by
  induction ts generalizing i with
  | nil => simp at hi
  | cons t l ih =>
    unfold tvsCells at *
    rw [List.flatMap_cons]
    cases i with
    | zero => rw [List.getElem?_append_left (by simp [tvCells]; omega)]; simp
    | succ i =>
      rw [List.getElem?_append_right (by simp [tvCells]; omega)]
      have : (i + 1) * 4 + j - (tvCells t).length = i * 4 + j := by simp [tvCells]; omega
      rw [this, ih i (by simp at hi; omega)]
      simp
theorem RdT.form {w : World} {v : Value} {ts : List TV} (h : RdT w v ts) (hn : 0 < ts.length) : ∃ b off cap, v = .slice (some ⟨b, off, none⟩) ts.length cap ∧ ts.length ≤ cap ∧ cap ≤ maxLen ∧ b < w.heap.size ∧
    ∀ i (hi : i < ts.length), w.cell? ⟨b, off + i * 4, none⟩ = some (.int .i64 ts[i].1) ∧ w.cell? ⟨b, off + i * 4 + 1, none⟩ = some (.string ts[i].2.1) ∧ w.cell? ⟨b, off + i * 4 + 2, none⟩ = some (.int .i64 ts[i].2.2.1) ∧ w.cell? ⟨b, off + i * 4 + 3, none⟩ = some (.int .i64 ts[i].2.2.2) := by
  rcases h.2 with ⟨h0, _⟩ | ⟨b, off, cap, rfl, hnc, hcm, hlt, hc⟩
  · omega
  · refine ⟨b, off, cap, rfl, hnc, hcm, hlt, fun i hi => ⟨?_, ?_, ?_, ?_⟩⟩
    · exact hc (i * 4 + 0) _ (flat4 ts i 0 hi (by omega))
    · exact hc (i * 4 + 1) _ (flat4 ts i 1 hi (by omega))
    · exact hc (i * 4 + 2) _ (flat4 ts i 2 hi (by omega))
    · exact hc (i * 4 + 3) _ (flat4 ts i 3 hi (by omega))

set_option maxHeartbeats 1000000 in
theorem same2_len (w : World) (v v' : Value) (ts us : List TV) (h1 : RdT w v ts) (h2 : RdT w v' us) (hne : ts.length ≠ us.length) :
    Calls Try.prog 31 #[v, v'] w fun e w' => e = .returned (.bool false) ∧ w = w' := by
  obtain ⟨A, c, rfl⟩ : ∃ A c, v = .slice A ts.length c := by
    rcases h1.2 with ⟨h0, A, c, rfl⟩ | ⟨b, off, cap, rfl, _⟩
    · exact ⟨A, c, by rw [h0]⟩
    · exact ⟨_, _, rfl⟩
  obtain ⟨A', c', rfl⟩ : ∃ A c, v' = .slice A us.length c := by
    rcases h2.2 with ⟨h0, A, c, rfl⟩ | ⟨b, off, cap, rfl, _⟩
    · exact ⟨A, c, by rw [h0]⟩
    · exact ⟨_, _, rfl⟩
  have hb : ((ts.length : Int) != (us.length : Int)) = true := by simp; omega
  clear hne
  go_enter Try.func31, Try.ntmps31
  go_wp2_with fail
  go_ret
  exact ⟨rfl, rfl⟩
/-- Where all are the same, Same says so. -/
theorem same2_yes (w : World) (v v' : Value) (ts : List TV) (h1 : RdT w v ts) (h2 : RdT w v' ts) (hm : ts.length ≤ 1000000) :
    Calls Try.prog 31 #[v, v'] w fun e w' => e = .returned (.bool true) ∧ Below w.heap.size w w' := by
  by_cases h0 : 0 < ts.length
  · obtain ⟨b, off, cap, rfl, hnc, hcm, hlt, hc⟩ := h1.form h0
    obtain ⟨b', off', cap', rfl, hnc', hcm', hlt', hc'⟩ := h2.form h0
    have hb : ((ts.length : Int) != (ts.length : Int)) = false := by simp
    have hcl := Lib.hid hc
    have hcl' := Lib.hid hc'
    clear h1 h2 hc hc'
    go_enter Try.func31, Try.ntmps31
    go_wp2_with fail
    go_loopw [5] (fun t wr => ∃ k : Nat, k ≤ ts.length ∧ t = .int .i64 k ∧ Below w.heap.size w wr) (fun t _ => ts.length - (intOf t).toNat)
    case atStart => exact ⟨0, Nat.zero_le _, rfl, Below.refl _ _⟩
    case round =>
      obtain ⟨k, hk, rfl, hbw⟩ := hrel
      by_cases hkl : k < ts.length
      · obtain ⟨c0, c1, c2, c3⟩ := hcl.out k hkl
        obtain ⟨d0, d1, d2, d3⟩ := hcl'.out k hkl
        have e0 := (hbw.cell (p := ⟨b, off + k * 4, none⟩) hlt).trans c0
        have e1 := (hbw.cell (p := ⟨b, off + k * 4 + 1, none⟩) hlt).trans c1
        have e2 := (hbw.cell (p := ⟨b, off + k * 4 + 2, none⟩) hlt).trans c2
        have e3 := (hbw.cell (p := ⟨b, off + k * 4 + 3, none⟩) hlt).trans c3
        have g0 := (hbw.cell (p := ⟨b', off' + k * 4, none⟩) hlt').trans d0
        have g1 := (hbw.cell (p := ⟨b', off' + k * 4 + 1, none⟩) hlt').trans d1
        have g2 := (hbw.cell (p := ⟨b', off' + k * 4 + 2, none⟩) hlt').trans d2
        have g3 := (hbw.cell (p := ⟨b', off' + k * 4 + 3, none⟩) hlt').trans d3
        clear c0 c1 c2 c3 d0 d1 d2 d3
        generalize ts[k] = t at *
        obtain ⟨t0, t1, t2, t3⟩ := t
        go_wp2_with fail
        go_quiet (fail)
        go_wp2_with fail
        go_roundw
        case rel => exact ⟨k + 1, by omega, by go_num, below_drewN hbw _⟩
        case measure => simp [intOf]; omega
      · go_wp2_with fail
        go_ret
        exact ⟨rfl, hbw⟩
  · obtain ⟨A, c, rfl⟩ : ∃ A c, v = .slice A 0 c := by
      rcases h1.2 with ⟨h0, A, c, rfl⟩ | ⟨b, off, cap, rfl, _⟩
      · exact ⟨A, c, rfl⟩
      · exact ⟨_, _, by rw [show ts.length = 0 by omega]⟩
    obtain ⟨A', c', rfl⟩ : ∃ A c, v' = .slice A 0 c := by
      rcases h2.2 with ⟨h0, A, c, rfl⟩ | ⟨b, off, cap, rfl, _⟩
      · exact ⟨A, c, rfl⟩
      · exact ⟨_, _, by rw [show ts.length = 0 by omega]⟩
    clear h1 h2
    go_enter Try.func31, Try.ntmps31
    go_wp2_with fail
    refine wp_loop_rounds 1 ?_
    rw [rounds_succ]
    go_wp2_with fail
    go_ret
    exact ⟨rfl, Below.refl _ _⟩
end Go.Proofs.Ytlifkfihpmkffaa
