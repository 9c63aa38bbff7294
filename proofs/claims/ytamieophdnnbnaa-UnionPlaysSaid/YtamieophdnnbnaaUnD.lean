/- union: Join. -/
import Derived.Test.YtamieophdnnbnaaUnC1
import Derived.Test.YtamieophdnnbnaaUnC2
namespace Go.Proofs.Ytamieophdnnbnaa.Un
open Go.RowKit
theorem join_in {S : Nat → Prop} {w : World} {b n : Nat} {col ro : Nat → Nat} {steps : Int} (h : UFo S w b n col ro steps) (hst : 0 ≤ steps ∧ steps ≤ 10000000000000) (x y : Nat) (hx : x < n) (hy : y < n) :
    Calls Try.prog 12 #[.pointer (some ⟨b, 0, none⟩), .int .i64 x, .int .i64 y] w (JoinPost S w b n col steps x y) := by
  obtain ⟨A, Z, X, par, sz, nx, rk, h1, h2, h3, h4, h5⟩ := h
  by_cases hro : ro x = ro y
  · exact join_eq h1 h2 h3 h4 h5 hst x y hx hy hro
  · by_cases hs : sz (ro x) < sz (ro y)
    · exact join_lt h1 h2 h3 h4 h5 hst x y hx hy hro hs
    · exact join_ge h1 h2 h3 h4 h5 hst x y hx hy hro hs
set_option maxRecDepth 100000 in
theorem join_out {S : Nat → Prop} {w : World} {b n : Nat} {col ro : Nat → Nat} {steps : Int} (h : UFo S w b n col ro steps) (i j : Int) (hij : ¬ ((0 ≤ i ∧ i < n) ∧ (0 ≤ j ∧ j < n))) :
    Calls Try.prog 12 #[.pointer (some ⟨b, 0, none⟩), .int .i64 i, .int .i64 j] w fun e w' => e = .returned (.tuple #[.int .i64 0, .bool false]) ∧ w' = w := by
  have HH := has_uf h i
  have HJ := has_uf h j
  clear h
  by_cases hi : 0 ≤ i ∧ i < n
  · rw [decide_eq_true hi] at HH
    rw [decide_eq_false (fun hj => hij ⟨hi, hj⟩)] at HJ
    clear hij hi
    go_enter Try.func12, Try.ntmps12
    go_wp2_with fail
    refine HH.mono ?_
    rintro e w' ⟨rfl, rfl⟩
    go_wp2_with fail
    refine HJ.mono ?_
    rintro e w' ⟨rfl, rfl⟩
    go_wp2_with fail
    go_ret2
    exact ⟨rfl, rfl⟩
  · rw [decide_eq_false hi] at HH
    clear hij hi
    go_enter Try.func12, Try.ntmps12
    go_wp2_with fail
    refine HH.mono ?_
    rintro e w' ⟨rfl, rfl⟩
    go_wp2_with fail
    go_ret2
    exact ⟨rfl, rfl⟩
end Go.Proofs.Ytamieophdnnbnaa.Un
