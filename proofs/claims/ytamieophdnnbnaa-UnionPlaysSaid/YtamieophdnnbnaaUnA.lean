/- union: Len, has, Sets, Steps; search. -/
import Derived.Test.YtamieophdnnbnaaUnM
import Derived.Deep.QuietTactic
import Derived.BigQuiet
import Derived.WalkMore
import Derived.ScopeJumps
namespace Go.Proofs.Ytamieophdnnbnaa.Un
open Go.RowKit

set_option maxRecDepth 100000 in
theorem len_any {S : Nat → Prop} {w : World} {b n : Nat} {A Z X : Value} {par sz nx : Nat → Nat} {sets steps : Int} (h : FM S w b n A Z X par sz nx sets steps) :
    Calls Try.prog 21 #[.pointer (some ⟨b, 0, none⟩)] w fun e w' => e = .returned (.int .i64 n) ∧ w' = w := by
  obtain ⟨c0, c1, c2, c3, c4⟩ := h.cells
  have hl := h.lt
  obtain ⟨A', c, rfl⟩ : ∃ A' c, A = .slice A' n c := by
    rcases h.ra.2 with ⟨hv, hn⟩ | ⟨g, cap, cur, hv, _⟩
    · exact ⟨none, 0, by rw [hv, hn]⟩
    · exact ⟨_, _, hv⟩
  clear h
  go_enter Try.func21, Try.ntmps21
  go_wp2_with fail
  go_ret
  exact ⟨rfl, rfl⟩
set_option maxRecDepth 100000 in
theorem sets_any {S : Nat → Prop} {w : World} {b n : Nat} {A Z X : Value} {par sz nx : Nat → Nat} {sets steps : Int} (h : FM S w b n A Z X par sz nx sets steps) :
    Calls Try.prog 22 #[.pointer (some ⟨b, 0, none⟩)] w fun e w' => e = .returned (.int .i64 sets) ∧ w' = w := by
  obtain ⟨c0, c1, c2, c3, c4⟩ := h.cells
  have hl := h.lt
  clear h
  go_enter Try.func22, Try.ntmps22
  go_wp2_with fail
  go_ret
  exact ⟨rfl, rfl⟩
set_option maxRecDepth 100000 in
theorem steps_any {S : Nat → Prop} {w : World} {b n : Nat} {A Z X : Value} {par sz nx : Nat → Nat} {sets steps : Int} (h : FM S w b n A Z X par sz nx sets steps) :
    Calls Try.prog 24 #[.pointer (some ⟨b, 0, none⟩)] w fun e w' => e = .returned (.int .i64 steps) ∧ w' = w := by
  obtain ⟨c0, c1, c2, c3, c4⟩ := h.cells
  have hl := h.lt
  clear h
  go_enter Try.func24, Try.ntmps24
  go_wp2_with fail
  go_ret
  exact ⟨rfl, rfl⟩
set_option maxRecDepth 100000 in
theorem has_any {S : Nat → Prop} {w : World} {b n : Nat} {A Z X : Value} {par sz nx : Nat → Nat} {sets steps : Int} (h : FM S w b n A Z X par sz nx sets steps) (i : Int) :
    Calls Try.prog 27 #[.pointer (some ⟨b, 0, none⟩), .int .i64 i] w fun e w' => e = .returned (.bool (decide (0 ≤ i ∧ i < n))) ∧ w' = w := by
  by_cases hi : 0 ≤ i
  · have f1 : decide (0 ≤ i) = true := decide_eq_true hi
    go_enter Try.func27, Try.ntmps27
    go_wp2_with fail
    refine (len_any h).mono ?_
    rintro e w' ⟨rfl, rfl⟩
    go_wp2_with fail
    go_ret
    exact ⟨by simp [hi], rfl⟩
  · have f1 : decide (0 ≤ i) = false := decide_eq_false hi
    go_enter Try.func27, Try.ntmps27
    go_wp2_with fail
    go_ret
    exact ⟨rfl, rfl⟩
/-- A scope that begins with its label: what holds at every pass. -/
theorem wp_scope_from {P : Program} {a : Act} {w : World} {Q : Exit → Act → World → Prop} {r : Code} (l : Nat) (J : Act → World → Prop) (μ : Act → World → Nat)
    (h0 : J a w) (pass : ∀ a w, J a w → r.wp P (Exit.jump l (fun a' w' => J a' w' ∧ μ a' w' < μ a w) Q) a w) : (Code.scope ((Code.label l).seq r)).wp P Q a w := by
  refine wp_scope_jumps l J μ (rest := Code.skip.seq r) (by simp [findLabel]) (wp_seq (wp_label ?_)) fun a w h => wp_seq (wp_skip ?_)
  · refine wp_mono (pass a w h0) fun e a' w' h => ?_
    cases e <;> first | exact h | exact ⟨h.1, h.2.1⟩
  · refine wp_mono (pass a w h) fun e a' w' h => ?_
    cases e <;> exact h
def slotN : Value → Nat
  | .int _ q => q.toNat
  | _ => 0
/-- What search owes. -/
def SearchPost (S : Nat → Prop) (w : World) (b n : Nat) (A Z X : Value) (par sz nx col rk : Nat → Nat) (sets steps : Int) (i : Nat) (e : Ending) (w' : World) : Prop :=
  ∃ (par' : Nat → Nat) (r k : Nat), e = .returned (.int .i64 r) ∧ r < n ∧ par' r = r ∧ col r = col i ∧ (∀ j, j < n → (par' j = j ↔ par j = j)) ∧ UFr n par' sz col rk ∧ FM S w' b n A Z X par' sz nx sets (steps + k) ∧ 2 ^ k ≤ 2 * n ∧ Else S w w'
set_option maxRecDepth 100000 in
theorem search_any {S : Nat → Prop} {w : World} {b n : Nat} {A Z X : Value} {par sz nx col rk : Nat → Nat} {sets steps : Int} (h : FM S w b n A Z X par sz nx sets steps) (u : UFr n par sz col rk) (hn : n ≤ 1048576) (hst : 0 ≤ steps ∧ steps ≤ 1000000000000000) (i : Nat) (hi : i < n) :
    Calls Try.prog 28 #[.pointer (some ⟨b, 0, none⟩), .int .i64 i] w (SearchPost S w b n A Z X par sz nx col rk sets steps i) := by
  go_enter Try.func28, Try.ntmps28
  go_wp2
  refine wp_scope_from 0 (fun a' w' => ∃ (c : Nat) (par' : Nat → Nat) (k : Nat) (u5 u6 u7 u8 u9 u10 u11 u12 u13 u14 u15 u16 u17 u18 u19 u20 u21 u22 u23 u24 u25 u26 u27 u28 u29 u30 u31 u32 u33 u34 u35 u36 u37 u38 u39 : Value), a' = { tmps := #[.pointer (some ⟨b, 0, none⟩), .int .i64 c, undef, undef, .int .i64 0, u5, u6, u7, u8, u9, u10, u11, u12, u13, u14, u15, u16, u17, u18, u19, u20, u21, u22, u23, u24, u25, u26, u27, u28, u29, u30, u31, u32, u33, u34, u35, u36, u37, u38, u39], defers := [] } ∧
    c < n ∧ col c = col i ∧ (∀ j, j < n → (par' j = j ↔ par j = j)) ∧ UFr n par' sz col rk ∧ FM S w' b n A Z X par' sz nx sets (steps + k) ∧ rk i + k ≤ rk c ∧ Else S w w') (fun a' _ => (1048577 - rk (slotN (a'.tmps.getD 1 undef)))) ?_ ?_
  · exact ⟨i, par, 0, _, _, _, _, _, _, _, _, _, _, _, _, _, _, _, _, _, _, _, _, _, _, _, _, _, _, _, _, _, _, _, _, _, _, _, rfl, hi, rfl, fun _ _ => Iff.rfl, u, by simpa using h, Nat.le_refl _, Else.refl _ _⟩
  · rintro a' w' ⟨c, par', k, u5, u6, u7, u8, u9, u10, u11, u12, u13, u14, u15, u16, u17, u18, u19, u20, u21, u22, u23, u24, u25, u26, u27, u28, u29, u30, u31, u32, u33, u34, u35, u36, u37, u38, u39, rfl, hc, hcol, hroots, u', h', hk, he⟩
    obtain ⟨c0, c1, c2, c3, c4⟩ := h'.cells
    have hl := h'.lt
    obtain ⟨ga, ca, rfl, hga, hgl⟩ := own_shape h'.ra (by omega)
    have r1 : w'.cell? ⟨ga, c, none⟩ = some (.int .i64 (par' c)) := (h'.ra.cellAt c (by omega)).trans (rowI_get hc)
    have hp := u'.lt c hc
    have r2 : w'.cell? ⟨ga, par' c, none⟩ = some (.int .i64 (par' (par' c))) := (h'.ra.cellAt (par' c) (by omega)).trans (rowI_get hp)
    have hgb : ga ≠ b := fun e => row_ne h'.ra h'.blk (by decide) (by rw [e]; rfl)
    have hz : w'.frozen? ⟨b, 4, none⟩ = false := h'.frozen 4
    have hz2 : w'.frozen? ⟨ga, c, none⟩ = false := h'.ra.frozenAt c
    have hb := u'.small c hc
    have hkk : 2 ^ (k + 1) ≤ 2 * n := Nat.le_trans (Nat.pow_le_pow_right (by omega) (show k + 1 ≤ rk c + 1 by omega)) (by rw [Nat.pow_succ]; omega)
    have hk20 : k ≤ 20 := by
      have h1 : 2 ^ k ≤ n := by rw [Nat.pow_succ] at hkk; omega
      refine Nat.le_of_not_lt fun hx => ?_
      have : 2 ^ 21 ≤ 2 ^ k := Nat.pow_le_pow_right (by omega) hx
      omega
    have hS1 := h'.set4 (steps + (k : Int) + 1)
    have hE1 := he.trans (Else.set w' (p := ⟨b, 4, none⟩) h'.sb (.int .i64 (steps + (k : Int) + 1)))
    have hsga : S ga := (h'.sa ga rfl).1
    go_wp2
    · rename_i hne
      go_step3
      have hne2 : par' (par' c) ≠ par' c := fun e => by rw [e] at hne; simp at hne
      obtain ⟨q1, q2, q3⟩ := u'.halve hc hne2
      refine ⟨rfl, ⟨par' (par' c), upd par' c (par' (par' c)), k + 1, _, _, _, _, _, _, _, _, _, _, _, _, _, _, _, _, _, _, _, _, _, _, _, _, _, _, _, _, _, _, _, _, _, _, _, rfl, u'.lt _ hp, ?_, fun j hj => (q2 j hj).trans (hroots j hj), q1, ?_, by omega, hE1.trans (Else.set _ hsga _)⟩, ?_⟩
      · rw [u'.colp _ hp, u'.colp _ hc]; exact hcol
      · rw [show steps + ((k + 1 : Nat) : Int) = steps + (k : Int) + 1 by omega]; exact hS1.setA c (par' (par' c))
      · have := u'.small (par' (par' c)) (u'.lt _ hp)
        have hx : rk (par' (par' c)) < 1048577 := Nat.lt_of_lt_of_le (Nat.lt_two_pow_self) (by omega)
        show 1048577 - rk (par' (par' c)) < 1048577 - rk c
        omega
    · rename_i heq
      have heq2 : par' (par' c) = par' c := by
        refine Classical.byContradiction fun hx => ?_
        have hx2 : (↑(par' (par' c)) : Int) ≠ ↑(par' c) := by omega
        simp [hx2] at heq
      simp only [Exit.jump]
      go_ret
      exact ⟨par', par' c, k + 1, rfl, hp, heq2, (u'.colp _ hc).trans hcol, hroots, u', (by rw [show steps + ((k + 1 : Nat) : Int) = steps + (k : Int) + 1 by omega]; exact hS1), hkk, hE1⟩
end Go.Proofs.Ytamieophdnnbnaa.Un
