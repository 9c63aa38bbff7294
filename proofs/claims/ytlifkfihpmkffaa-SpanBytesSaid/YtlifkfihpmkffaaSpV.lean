/- The contracts of the functions that package span hands to slices.ContainsFunc, and of span.Right and span.Has. -/
import Derived.Test.YtlifkfihpmkffaaSpB
import Derived.Deep.QuietTactic
import Derived.BigQuiet
namespace Go.Proofs.Ytlifkfihpmkffaa
open Go.RowKit

/-- A span that does not lie in a text of n bytes. -/
def wrongSp (n : Int) (s : Sp) : Bool := decide (s.1 < 0) || decide (n < s.2) || decide (s.2 < s.1)
set_option maxHeartbeats 1000000 in
set_option maxRecDepth 100000 in
theorem right1_any (n : Int) (s : Sp) (nb : Nat) (W : World) (hc : W.cell? ⟨nb, 0, none⟩ = some (.int .i64 n)) (hlt : nb < W.heap.size) :
    Calls Try.prog 41 #[.agg #[.int .i64 s.1, .int .i64 s.2], .pointer (some ⟨nb, 0, none⟩)] W fun e w' => e = .returned (.bool (wrongSp n s)) ∧ Below W.heap.size W w' := by
  obtain ⟨a, b⟩ := s
  have e : wrongSp n (a, b) = (decide (a < 0) || decide (n < b) || decide (b < a)) := rfl
  rw [e]
  have hne : nb ≠ W.heap.size := by omega
  by_cases h1 : a < 0 <;> by_cases h2 : n < b
  all_goals
    go_enter Try.func41, Try.ntmps41
    go_wp2
  all_goals
    go_ret
    exact ⟨sret_bool (by first | (simp [*]; done) | (simp [*]; omega)), (Below.refl _ _).alloc (Nat.le_refl _) _⟩
def hasSp (i : Int) (s : Sp) : Bool := decide (s.1 ≤ i) && decide (i < s.2)
set_option maxHeartbeats 1000000 in
set_option maxRecDepth 100000 in
theorem has1_any (n : Int) (s : Sp) (nb : Nat) (W : World) (hc : W.cell? ⟨nb, 0, none⟩ = some (.int .i64 n)) (hlt : nb < W.heap.size) :
    Calls Try.prog 42 #[.agg #[.int .i64 s.1, .int .i64 s.2], .pointer (some ⟨nb, 0, none⟩)] W fun e w' => e = .returned (.bool (hasSp n s)) ∧ Below W.heap.size W w' := by
  obtain ⟨a, b⟩ := s
  have e : hasSp n (a, b) = (decide (a ≤ n) && decide (n < b)) := rfl
  rw [e]
  have hne : nb ≠ W.heap.size := by omega
  by_cases h1 : a ≤ n <;> by_cases h2 : n < b
  all_goals
    go_enter Try.func42, Try.ntmps42
    go_wp2
  all_goals
    go_ret
    exact ⟨sret_bool (by first | (simp [*]; done) | (simp [*]; omega)), (Below.refl _ _).alloc (Nat.le_refl _) _⟩
end Go.Proofs.Ytlifkfihpmkffaa
