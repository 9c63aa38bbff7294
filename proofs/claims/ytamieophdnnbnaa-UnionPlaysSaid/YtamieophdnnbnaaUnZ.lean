/- The document's answer on sets: Same and Set of elements that aren't there, Count; digits. -/
import Derived.Test.YtamieophdnnbnaaUnX
import Derived.Deep.QuietTactic
import Derived.BigQuiet
namespace Go.Proofs.Ytamieophdnnbnaa.Un
open Go.RowKit
attribute [local go_sem] Oper.semAt_some
attribute [local go_sem ↓] builtin_app

set_option maxRecDepth 100000 in
set_option maxHeartbeats 8000000 in
theorem rsame_out {w : World} {B : Nat} {v : Value} {n : Nat} {xs : List Value} (h : w.ownsRow B 3 1 v n xs) (i j : Int) (hij : ¬ ((0 ≤ i ∧ i < n) ∧ (0 ≤ j ∧ j < n))) :
    Calls Try.prog 14 #[v, .int .i64 i, .int .i64 j] w fun e w' => e = .returned (.bool false) ∧ ∃ q, w' = w.drewN q := by
  obtain ⟨Av, cv, rfl⟩ := row_form h
  have H1 := rin_any (w := w.drew) (show w.drew.ownsRow B 3 1 (.slice Av n cv) n xs from h) i
  have H2 := rin_any (w := w.drew) (show w.drew.ownsRow B 3 1 (.slice Av n cv) n xs from h) j
  have HH := Lib.hid h
  clear h
  by_cases hi : 0 ≤ i ∧ i < n
  · have hj : ¬ (0 ≤ j ∧ j < n) := fun hj => hij ⟨hi, hj⟩
    have H1q : Hid (∀ k, Calls Try.prog 13 #[.slice Av n cv, .int .i64 i] (w.drewN k) fun e w' => e = .returned (.bool true) ∧ w' = w.drewN k) := Lib.hid (fun k => by
      have := rin_any (w := w.drewN k) (show (w.drewN k).ownsRow B 3 1 (.slice Av n cv) n xs from HH.out) i
      rw [decide_eq_true hi] at this
      exact this)
    have H2q : Hid (∀ k, Calls Try.prog 13 #[.slice Av n cv, .int .i64 j] (w.drewN k) fun e w' => e = .returned (.bool false) ∧ w' = w.drewN k) := Lib.hid (fun k => by
      have := rin_any (w := w.drewN k) (show (w.drewN k).ownsRow B 3 1 (.slice Av n cv) n xs from HH.out) j
      rw [decide_eq_false hj] at this
      exact this)
    clear hij hi hj H1 H2 HH
    go_enter Try.func14, Try.ntmps14
    go_wp2_with fail
    go_quiet ((go_at_call 13; first | with_reducible exact Calls.quiet_of_same (H1q.out _) | with_reducible exact Calls.quiet_of_same (H2q.out _)))
    go_wp2_with fail
    go_ret
    exact ⟨rfl, _, rfl⟩
  · have H1q : Hid (∀ k, Calls Try.prog 13 #[.slice Av n cv, .int .i64 i] (w.drewN k) fun e w' => e = .returned (.bool false) ∧ w' = w.drewN k) := Lib.hid (fun k => by
      have := rin_any (w := w.drewN k) (show (w.drewN k).ownsRow B 3 1 (.slice Av n cv) n xs from HH.out) i
      rw [decide_eq_false hi] at this
      exact this)
    clear hij hi H1 H2 HH
    go_enter Try.func14, Try.ntmps14
    go_wp2_with fail
    go_quiet ((go_at_call 13; exact Calls.quiet_of_same (H1q.out _)))
    go_wp2_with fail
    go_ret
    exact ⟨rfl, _, rfl⟩
set_option maxRecDepth 100000 in
set_option maxHeartbeats 1000000 in
theorem rset_out {w : World} {B : Nat} {v : Value} {n : Nat} {c : Nat → Nat} (h : w.ownsRow B 3 1 v n (rowI n c)) (i : Int) (hi : ¬ (0 ≤ i ∧ i < n)) (hn : n ≤ 1000000) :
    Calls Try.prog 19 #[v, .int .i64 i] w fun e w' => e = .returned (.slice none 0 0) ∧ Below w.heap.size w w' := by
  obtain ⟨Av, cv, rfl⟩ := row_form h
  have H := Lib.hid h
  clear h
  go_enter Try.func19, Try.ntmps19
  go_wp2_with fail
  go_loopw [5, 6] (fun v s wr => ∃ k : Nat, s = .int .i64 (k : Int) ∧ k ≤ n ∧ v = .slice none 0 0 ∧ Below w.heap.size w wr) (fun _ s _ => ((n : Int) - intAt s).toNat)
  case atStart => exact ⟨0, rfl, by omega, rfl, Below.refl _ _⟩
  case round =>
    obtain ⟨k, rfl, hk, rfl, hb⟩ := hrel
    by_cases hkn : k < n
    · have f1 : decide ((k : Int) < (n : Nat)) = true := decide_eq_true (by omega)
      have HC := rsame_out (row_later H.out hb) i k (fun h => hi h.1)
      have HB := Lib.hid hb
      clear hb
      go_wp2_with fail
      refine HC.mono ?_
      rintro e w2 ⟨rfl, q, rfl⟩
      clear HC
      go_wp2_with fail
      go_roundw
      case rel => exact ⟨k + 1, by go_num, by omega, rfl, HB.out.trans ⟨rfl, rfl, rfl, Nat.le_refl _, fun _ _ => rfl⟩⟩
      case measure =>
        simp only [intAt]
        omega
    · have f1 : decide ((k : Int) < (n : Nat)) = false := decide_eq_false (by omega)
      obtain rfl : k = n := by omega
      have HR := Lib.hid hb
      clear hb
      go_wp2_with fail
      go_ret
      exact ⟨rfl, HR.out⟩
theorem mem_first {n : Nat} {c : Nat → Nat} {i : Nat} (hi : i < n) : ∃ a r, mem_ n c i = a :: r ∧ (a = i ↔ fst_ c i = true) := by
  obtain ⟨j, hj, ej, fj⟩ := first_of n c i hi
  have hs : (mem_ n c i).Pairwise (· < ·) := List.pairwise_lt_range.filter _
  have hji : j ≤ i := by
    refine Nat.le_of_not_lt fun h => fj i h ej.symm
  cases hm : mem_ n c i with
  | nil =>
    have : i ∈ mem_ n c i := mem_iff.2 ⟨hi, rfl⟩
    rw [hm] at this; cases this
  | cons a r =>
    have ha : a ∈ mem_ n c i := by rw [hm]; exact List.mem_cons_self
    have ha2 := mem_iff.1 ha
    have hjm : j ∈ mem_ n c i := mem_iff.2 ⟨hj, ej⟩
    have haj : a = j := by
      rw [hm] at hjm hs
      rcases List.mem_cons.1 hjm with h | h
      · exact h.symm
      · have h1 := (List.pairwise_cons.1 hs).1 j h
        exact absurd (ha2.2.trans ej.symm) (fj a h1)
    refine ⟨a, r, rfl, ?_⟩
    rw [haj, fst_iff]
    constructor
    · rintro rfl; exact fj
    · intro h
      refine Nat.le_antisymm hji (Nat.le_of_not_lt fun hlt => h j hlt ej)
set_option maxRecDepth 100000 in
set_option maxHeartbeats 1000000 in
theorem rcount_any {w : World} {B : Nat} {v : Value} {n : Nat} {c : Nat → Nat} (h : w.ownsRow B 3 1 v n (rowI n c)) (hn : n ≤ 1000000) :
    Calls Try.prog 23 #[v] w fun e w' => e = .returned (.int .i64 (cnt n c : Nat)) ∧ Below w.heap.size w w' := by
  obtain ⟨Av, cv, rfl⟩ := row_form h
  have H := Lib.hid h
  clear h
  go_enter Try.func23, Try.ntmps23
  go_wp2_with fail
  go_loopw [3, 4] (fun t s wr => ∃ k : Nat, s = .int .i64 (k : Int) ∧ k ≤ n ∧ t = .int .i64 ((List.range k).countP (fst_ c) : Nat) ∧ Below w.heap.size w wr) (fun _ s _ => ((n : Int) - intAt s).toNat)
  case atStart => exact ⟨0, rfl, by omega, rfl, Below.refl _ _⟩
  case round =>
    obtain ⟨k, rfl, hk, rfl, hb⟩ := hrel
    by_cases hkn : k < n
    · have f1 : decide ((k : Int) < (n : Nat)) = true := decide_eq_true (by omega)
      have HC := rset_in (row_later H.out hb) k hkn hn
      have HB := Lib.hid hb
      have hct : (List.range k).countP (fst_ c) ≤ 1000000 := by
        have := List.countP_le_length (p := fst_ c) (l := List.range k)
        rw [List.length_range] at this
        omega
      have hsucc : (List.range (k + 1)).countP (fst_ c) = (List.range k).countP (fst_ c) + if fst_ c k then 1 else 0 := by
        rw [List.range_succ, List.countP_append]
        cases hf : fst_ c k <;> simp [hf]
      obtain ⟨ct, hctd⟩ : ∃ ct, (List.range k).countP (fst_ c) = ct := ⟨_, rfl⟩
      rw [hctd] at hct hsucc ⊢
      have HSU := Lib.hid hsucc
      clear hb hsucc hctd
      go_wp2_with fail
      refine HC.mono ?_
      rintro e w2 ⟨v', rfl, ho, hb2⟩
      obtain ⟨a, r, hm, ha⟩ := mem_first (c := c) hkn
      rw [hm] at ho
      obtain ⟨g, cp, rfl, _, _⟩ := own_shape ho (by simp)
      have r1 : w2.cell? ⟨g, 0, none⟩ = some (.int .i64 (a : Nat)) := (ho.cellAt 0 (by simp)).trans (by simp [rowL])
      have hrl : (0 : Int) < (((a :: r).length : Nat) : Int) := by simp <;> omega
      obtain ⟨rl, hrl2⟩ : ∃ rl, (a :: r).length = rl := ⟨_, rfl⟩
      rw [hrl2] at hrl ⊢
      have HB2 := Lib.hid (HB.out.trans (hb2.mono HB.out.size))
      by_cases hak : a = k
      · have f2 : ((a : Int) == (k : Int)) = true := by rw [hak]; simp
        have HFS := Lib.hid (ha.1 hak)
        clear ho hb2 HC hm ha hak hrl2
        go_wp2_with fail
        go_roundw
        case rel => exact ⟨k + 1, by go_num, by omega, by rw [HSU.out, if_pos HFS.out]; go_num, HB2.out⟩
        case measure =>
          simp only [intAt]
          omega
      · have f2 : ((a : Int) == (k : Int)) = false := by simp; omega
        have HFS := Lib.hid (show ¬ fst_ c k = true from fun h => hak (ha.2 h))
        clear ho hb2 HC hm ha hak hrl2
        go_wp2_with fail
        go_roundw
        case rel => exact ⟨k + 1, by go_num, by omega, by rw [HSU.out, if_neg HFS.out, Nat.add_zero], HB2.out⟩
        case measure =>
          simp only [intAt]
          omega
    · have f1 : decide ((k : Int) < (n : Nat)) = false := decide_eq_false (by omega)
      obtain rfl : k = n := by omega
      have HR := Lib.hid hb
      clear hb
      go_wp2_with fail
      go_ret
      exact ⟨rfl, HR.out⟩
/-- How many binary digits. -/
def dgs (n : Nat) : Nat := if n = 0 then 0 else dg n
theorem dgs_half {n : Nat} (h : 0 < n) : dgs n = dgs (n / 2) + 1 := by
  unfold dgs
  rw [if_neg (by omega)]
  unfold dg
  by_cases h1 : n / 2 = 0
  · rw [if_pos h1]
    have : n = 1 := by omega
    subst this
    decide
  · rw [if_neg h1, Nat.log2_def n, if_pos (by omega)]
set_option maxRecDepth 100000 in
set_option maxHeartbeats 1000000 in
theorem digits_any (w : World) (n : Nat) (hn : n ≤ 1000000) :
    Calls Try.prog 25 #[.int .i64 (n : Nat)] w fun e w' => e = .returned (.int .i64 (dgs n : Nat)) ∧ w' = w := by
  have hd : dgs n ≤ 21 := by unfold dgs; split; omega; exact dg_le (by omega)
  go_enter Try.func25, Try.ntmps25
  go_wp2_with fail
  go_loopw [0, 3] (fun s d wr => wr = w ∧ ∃ k j : Nat, s = .int .i64 (k : Int) ∧ d = .int .i64 (j : Int) ∧ j + dgs k = dgs n ∧ k ≤ n) (fun s _ _ => (intAt s).toNat)
  case atStart => exact ⟨rfl, n, 0, rfl, rfl, by omega, Nat.le_refl _⟩
  case round =>
    obtain ⟨rfl, k, j, rfl, rfl, hs, hk⟩ := hrel
    by_cases hk0 : 0 < k
    · have f1 : decide ((0 : Int) < (k : Nat)) = true := decide_eq_true (by omega)
      have hh := dgs_half hk0
      obtain ⟨k2, hk2⟩ : ∃ k2, k / 2 = k2 := ⟨_, rfl⟩
      rw [hk2] at hh
      have f2 : ((k : Nat) : Int).tdiv 2 = (k2 : Int) := by rw [← hk2]; rfl
      have f3 : ((k : Nat) : Int) / 2 = (k2 : Int) := by omega
      have hlt : k2 < k := by omega
      clear hk2
      go_wp2_with fail
      go_roundw
      case rel => exact ⟨trivial, k2, j + 1, by go_num, by go_num, by omega, by omega⟩
      case measure =>
        simp only [intAt]
        omega
    · have f1 : decide ((0 : Int) < (k : Nat)) = false := decide_eq_false (by omega)
      obtain rfl : k = 0 := by omega
      have e0 : dgs 0 = 0 := rfl
      rw [e0, Nat.add_zero] at hs
      subst hs
      go_wp2_with fail
      go_ret
      exact ⟨rfl, rfl⟩
end Go.Proofs.Ytamieophdnnbnaa.Un
