/- union: Join, Same, Root. -/
import Derived.Test.YtamieophdnnbnaaUnA
namespace Go.Proofs.Ytamieophdnnbnaa.Un
open Go.RowKit

/-- A forest in memory, whose sets are the colors', and whose roots these are. -/
def UFo (S : Nat → Prop) (w : World) (b n : Nat) (col ro : Nat → Nat) (steps : Int) : Prop :=
  ∃ (A Z X : Value) (par sz nx rk : Nat → Nat), FM S w b n A Z X par sz nx (cnt n col : Nat) steps ∧ UFr n par sz col rk ∧ Rings n nx col ∧ n ≤ 1048576 ∧ ∀ i, i < n → ro i < n ∧ par (ro i) = ro i ∧ col (ro i) = col i
def UF (S : Nat → Prop) (w : World) (b n : Nat) (col : Nat → Nat) (steps : Int) : Prop := ∃ ro, UFo S w b n col ro steps
theorem UFo.keep {S S' : Nat → Prop} {w w' : World} {b n : Nat} {col ro : Nat → Nat} {steps : Int} (h : UFo S w b n col ro steps) (he : Else S' w w') (hd : ∀ k, S k → ¬ S' k) : UFo S w' b n col ro steps := by
  obtain ⟨A, Z, X, par, sz, nx, rk, h1, h2⟩ := h
  exact ⟨A, Z, X, par, sz, nx, rk, h1.keep he hd, h2⟩
theorem UFo.below {S : Nat → Prop} {w w' : World} {b n : Nat} {col ro : Nat → Nat} {steps : Int} (h : UFo S w b n col ro steps) (hb : Below w.heap.size w w') : UFo S w' b n col ro steps :=
  h.keep (Else.of_below (S := fun _ => False) hb) fun _ _ => id
theorem UFo.ker {S : Nat → Prop} {w : World} {b n : Nat} {col d ro : Nat → Nat} {steps : Int} (h : UFo S w b n col ro steps) (k : Ker n col d) : UFo S w b n d ro steps := by
  obtain ⟨A, Z, X, par, sz, nx, rk, h1, h2, h3, h4, h5⟩ := h
  exact ⟨A, Z, X, par, sz, nx, rk, k.cnt ▸ h1, h2.ker k, h3.ker k, h4, fun i hi => ⟨(h5 i hi).1, (h5 i hi).2.1, (k _ _ (h5 i hi).1 hi).1 (h5 i hi).2.2⟩⟩
def dg (n : Nat) : Nat := Nat.log2 n + 1
theorem dg_of {n k : Nat} (hn : 0 < n) (h : 2 ^ k ≤ 2 * n) : k ≤ dg n := by
  unfold dg
  cases k with
  | zero => omega
  | succ k =>
    rw [Nat.pow_succ] at h
    have := (Nat.le_log2 (n := n) (k := k) (by omega)).2 (by omega)
    omega
theorem dg_le {n : Nat} (h : n ≤ 1048576) : dg n ≤ 21 := by
  unfold dg
  by_cases h0 : n = 0
  · subst h0; decide
  · have : ¬ (21 ≤ Nat.log2 n) := fun hx => by
      have := (Nat.le_log2 (n := n) (k := 21) h0).1 hx
      omega
    omega
theorem cnt_le (n : Nat) (col : Nat → Nat) : cnt n col ≤ n := by
  have := List.countP_le_length (p := fst_ col) (l := List.range n)
  rw [cnt_eq]; simpa using this
theorem paint_same {col : Nat → Nat} {a b : Nat} (h : col a = col b) : paint col a b = col := by
  funext k
  unfold paint
  split
  · rename_i e; rw [h, e]
  · rfl
/-- A search, as one call of the forest. -/
theorem search_uf {S : Nat → Prop} {w : World} {b n : Nat} {col ro : Nat → Nat} {steps : Int} (h : UFo S w b n col ro steps) (hst : 0 ≤ steps ∧ steps ≤ 100000000000000) (i : Nat) (hi : i < n) :
    Calls Try.prog 28 #[.pointer (some ⟨b, 0, none⟩), .int .i64 i] w fun e w' => ∃ k : Nat, e = .returned (.int .i64 (ro i : Nat)) ∧ k ≤ dg n ∧ UFo S w' b n col ro (steps + k) ∧ Else S w w' := by
  obtain ⟨A, Z, X, par, sz, nx, rk, h1, h2, h3, h4, h5⟩ := h
  refine (search_any h1 h2 h4 (by omega) i hi).mono ?_
  rintro e w2 ⟨par', r, k, rfl, hr, pr, hc, hroots, u', h', hk, he⟩
  obtain ⟨g1, g2, g3⟩ := h5 i hi
  have hro : r = ro i := u'.root r (ro i) hr g1 pr ((hroots _ g1).2 g2) (hc.trans g3.symm)
  subst hro
  exact ⟨k, rfl, dg_of (by omega) hk, ⟨A, Z, X, par', sz, nx, rk, h', u', h3, h4, fun j hj => ⟨(h5 j hj).1, (hroots _ (h5 j hj).1).2 (h5 j hj).2.1, (h5 j hj).2.2⟩⟩, he⟩
theorem has_uf {S : Nat → Prop} {w : World} {b n : Nat} {col ro : Nat → Nat} {steps : Int} (h : UFo S w b n col ro steps) (i : Int) :
    Calls Try.prog 27 #[.pointer (some ⟨b, 0, none⟩), .int .i64 i] w fun e w' => e = .returned (.bool (decide (0 ≤ i ∧ i < n))) ∧ w' = w := by
  obtain ⟨A, Z, X, par, sz, nx, rk, h1, _⟩ := h
  exact has_any h1 i
set_option maxRecDepth 100000 in
theorem root_in {S : Nat → Prop} {w : World} {b n : Nat} {col ro : Nat → Nat} {steps : Int} (h : UFo S w b n col ro steps) (hst : 0 ≤ steps ∧ steps ≤ 100000000000000) (i : Nat) (hi : i < n) :
    Calls Try.prog 16 #[.pointer (some ⟨b, 0, none⟩), .int .i64 i] w fun e w' => ∃ k : Nat, e = .returned (.tuple #[.int .i64 (ro i : Nat), .bool true]) ∧ k ≤ dg n ∧ UFo S w' b n col ro (steps + k) ∧ Else S w w' := by
  have HH := has_uf h (i : Int)
  rw [decide_eq_true (show (0 : Int) ≤ (i : Int) ∧ (i : Int) < (n : Int) by omega)] at HH
  have HS := search_uf h hst i hi
  clear h
  go_enter Try.func16, Try.ntmps16
  go_wp2_with fail
  refine HH.mono ?_
  rintro e w' ⟨rfl, rfl⟩
  go_wp2_with fail
  refine HS.mono ?_
  rintro e w2 ⟨k, rfl, hk, h', he⟩
  have HF := Lib.hid (And.intro hk (And.intro h' he))
  clear hk h' he
  go_wp2_with fail
  go_ret2
  exact ⟨k, rfl, HF.out⟩
set_option maxRecDepth 100000 in
theorem root_out {S : Nat → Prop} {w : World} {b n : Nat} {col ro : Nat → Nat} {steps : Int} (h : UFo S w b n col ro steps) (i : Int) (hi : ¬ (0 ≤ i ∧ i < n)) :
    Calls Try.prog 16 #[.pointer (some ⟨b, 0, none⟩), .int .i64 i] w fun e w' => e = .returned (.tuple #[.int .i64 0, .bool false]) ∧ w' = w := by
  have HH := has_uf h i
  rw [decide_eq_false hi] at HH
  clear h hi
  go_enter Try.func16, Try.ntmps16
  go_wp2_with fail
  refine HH.mono ?_
  rintro e w' ⟨rfl, rfl⟩
  go_wp2_with fail
  go_ret2
  exact ⟨rfl, rfl⟩
set_option maxRecDepth 100000 in
theorem same_in {S : Nat → Prop} {w : World} {b n : Nat} {col ro : Nat → Nat} {steps : Int} (h : UFo S w b n col ro steps) (hst : 0 ≤ steps ∧ steps ≤ 10000000000000) (i j : Nat) (hi : i < n) (hj : j < n) :
    Calls Try.prog 20 #[.pointer (some ⟨b, 0, none⟩), .int .i64 i, .int .i64 j] w fun e w' => ∃ k : Nat, e = .returned (.bool (col i == col j)) ∧ k ≤ 2 * dg n ∧ UFo S w' b n col ro (steps + k) ∧ Else S w w' := by
  have hn : n ≤ 1048576 := by obtain ⟨_, _, _, _, _, _, _, _, _, _, hn, _⟩ := h; exact hn
  have hdg := dg_le hn
  have hcr : (ro i = ro j) ↔ (col i = col j) := by
    obtain ⟨A, Z, X, par, sz, nx, rk, h1, h2, h3, h4, h5⟩ := h
    obtain ⟨a1, a2, a3⟩ := h5 i hi
    obtain ⟨b1, b2, b3⟩ := h5 j hj
    constructor
    · intro e; rw [← a3, ← b3, e]
    · intro e; exact h2.root _ _ a1 b1 a2 b2 (by rw [a3, b3, e])
  have HH := has_uf h (i : Int)
  rw [decide_eq_true (show (0 : Int) ≤ (i : Int) ∧ (i : Int) < (n : Int) by omega)] at HH
  have HJ := has_uf h (j : Int)
  rw [decide_eq_true (show (0 : Int) ≤ (j : Int) ∧ (j : Int) < (n : Int) by omega)] at HJ
  have HS := search_uf h (by omega) i hi
  have HCR := Lib.hid hcr
  clear h hcr
  go_enter Try.func20, Try.ntmps20
  go_wp2_with fail
  refine HH.mono ?_
  rintro e w' ⟨rfl, rfl⟩
  go_wp2_with fail
  refine HJ.mono ?_
  rintro e w' ⟨rfl, rfl⟩
  go_wp2_with fail
  refine HS.mono ?_
  rintro e w2 ⟨k, rfl, hk, h', he⟩
  have HT := search_uf h' (by omega) j hj
  have HF := Lib.hid (And.intro hk he)
  clear hk h' he
  go_wp2_with fail
  refine HT.mono ?_
  rintro e w3 ⟨k2, rfl, hk2, h2, he2⟩
  have HF2 := Lib.hid (And.intro hk2 (And.intro h2 he2))
  clear hk2 h2 he2
  go_wp2_with fail
  go_ret
  obtain ⟨hk, he⟩ := HF.out
  obtain ⟨hk2, h2, he2⟩ := HF2.out
  refine ⟨k + k2, ?_, by omega, by rw [show steps + ((k + k2 : Nat) : Int) = steps + k + k2 by omega]; exact h2, he.trans he2⟩
  have hx := HCR.out
  have e1 : ((ro i : Int) == (ro j : Int)) = (col i == col j) := by
    rw [Bool.eq_iff_iff, beq_iff_eq, beq_iff_eq]
    exact ⟨fun e => hx.1 (by omega), fun e => by rw [hx.2 e]⟩
  rw [← e1]; rfl
set_option maxRecDepth 100000 in
theorem same_out {S : Nat → Prop} {w : World} {b n : Nat} {col ro : Nat → Nat} {steps : Int} (h : UFo S w b n col ro steps) (i j : Int) (hij : ¬ ((0 ≤ i ∧ i < n) ∧ (0 ≤ j ∧ j < n))) :
    Calls Try.prog 20 #[.pointer (some ⟨b, 0, none⟩), .int .i64 i, .int .i64 j] w fun e w' => e = .returned (.bool false) ∧ w' = w := by
  have HH := has_uf h i
  have HJ := has_uf h j
  clear h
  by_cases hi : 0 ≤ i ∧ i < n
  · rw [decide_eq_true hi] at HH
    rw [decide_eq_false (fun hj => hij ⟨hi, hj⟩)] at HJ
    clear hij hi
    go_enter Try.func20, Try.ntmps20
    go_wp2_with fail
    refine HH.mono ?_
    rintro e w' ⟨rfl, rfl⟩
    go_wp2_with fail
    refine HJ.mono ?_
    rintro e w' ⟨rfl, rfl⟩
    go_wp2_with fail
    go_ret
    exact ⟨rfl, rfl⟩
  · rw [decide_eq_false hi] at HH
    clear hij hi
    go_enter Try.func20, Try.ntmps20
    go_wp2_with fail
    refine HH.mono ?_
    rintro e w' ⟨rfl, rfl⟩
    go_wp2_with fail
    go_ret
    exact ⟨rfl, rfl⟩
end Go.Proofs.Ytamieophdnnbnaa.Un
