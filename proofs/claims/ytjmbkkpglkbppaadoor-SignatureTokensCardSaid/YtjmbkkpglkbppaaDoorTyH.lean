/- types.rightAlone. -/
import Derived.Test.YtjmbkkpglkbppaaDoorTyF
namespace Go.Proofs.YtjmbkkpglkbppaaDoor
open Go.RowKit Go.Shelf

/-- Is one a type, its parts left aside? -/
def alone (k n : Int) (m : Nat) : Bool :=
  if k = 1 then decide (0 ≤ n) && decide (n < 1073741824) && ((m : Int) == 0)
  else if k = 2 ∨ k = 3 then (n == 0) && ((m : Int) == 0)
  else if k = 4 then (n == 0) && ((m : Int) == 2)
  else if k = 5 then (n == 0) && decide (2 ≤ (m : Int)) && decide ((m : Int) ≤ 8)
  else false
theorem number_any (n : Int) (w : World) : Calls Tryd.prog 56 #[.int .i64 n] w fun e w' => e = .returned (.bool (decide (0 ≤ n) && decide (n < 1073741824))) ∧ w' = w := by
  go_enter Tryd.func56, Tryd.ntmps56
  by_cases h : 0 ≤ n
  · have h2 : decide (0 ≤ n) = true := decide_eq_true h
    go_wp2
    go_ret
    exact ⟨by rw [h2]; rfl, rfl⟩
  · have h2 : decide (0 ≤ n) = false := decide_eq_false h
    go_wp2
    go_ret
    exact ⟨rfl, rfl⟩
set_option maxHeartbeats 1000000 in
theorem alone_any (k n : Int) (A : Option Addr) (m c : Nat) (w : World) : Calls Tryd.prog 35 #[tyVal k n (.slice A m c)] w fun e w' => e = .returned (.bool (alone k n m)) ∧ Below w.heap.size w w' := by
  dsimp only [tyVal]
  go_enter Tryd.func35, Tryd.ntmps35
  have HB := Lib.hid (show ∀ (cs : Array Value) (t : TypeId), Below w.heap.size w (w.alloc (Obj.cells cs t)) from fun cs t => (Below.refl _ w).alloc (Nat.le_refl _) _)
  by_cases h1 : k = 1
  · subst h1
    go_wp2_with fail
    refine (number_any n _).mono ?_
    rintro e w' ⟨rfl, rfl⟩
    obtain ⟨b, hb⟩ : ∃ b, (decide (0 ≤ n) && decide (n < 1073741824)) = b := ⟨_, rfl⟩
    rw [hb]
    have HN := Lib.hid hb
    clear hb
    cases b
    · go_wp2
      go_ret
      refine ⟨?_, HB.out _ _⟩
      simp [alone, HN.out]
    · go_wp2
      go_ret
      refine ⟨?_, HB.out _ _⟩
      simp [alone, HN.out]
  by_cases h2 : k = 2
  · subst h2
    obtain ⟨b, hb⟩ : ∃ b, (n == 0) = b := ⟨_, rfl⟩
    cases b
    · go_wp2
      go_ret
      refine ⟨?_, HB.out _ _⟩
      simp [alone, hb]
    · go_wp2
      go_ret
      refine ⟨?_, HB.out _ _⟩
      simp [alone, hb]
  by_cases h3 : k = 3
  · subst h3
    obtain ⟨b, hb⟩ : ∃ b, (n == 0) = b := ⟨_, rfl⟩
    cases b
    · go_wp2
      go_ret
      refine ⟨?_, HB.out _ _⟩
      simp [alone, hb]
    · go_wp2
      go_ret
      refine ⟨?_, HB.out _ _⟩
      simp [alone, hb]
  by_cases h4 : k = 4
  · subst h4
    obtain ⟨b, hb⟩ : ∃ b, (n == 0) = b := ⟨_, rfl⟩
    cases b
    · go_wp2
      go_ret
      refine ⟨?_, HB.out _ _⟩
      simp [alone, hb]
    · go_wp2
      go_ret
      refine ⟨?_, HB.out _ _⟩
      simp [alone, hb]
  by_cases h5 : k = 5
  · subst h5
    obtain ⟨b, hb⟩ : ∃ b, (n == 0) = b := ⟨_, rfl⟩
    obtain ⟨d, hd⟩ : ∃ d, decide (2 ≤ (m : Int)) = d := ⟨_, rfl⟩
    cases b
    · go_wp2
      go_ret
      refine ⟨?_, HB.out _ _⟩
      simp [alone, hb]
    cases d
    · go_wp2
      go_ret
      refine ⟨?_, HB.out _ _⟩
      simp [alone, hb, hd]
    · go_wp2
      go_ret
      refine ⟨?_, HB.out _ _⟩
      simp [alone, hb, hd]
  have f1 : (k == 1) = false := beq_eq_false_iff_ne.2 h1
  have f2 : (k == 2) = false := beq_eq_false_iff_ne.2 h2
  have f3 : (k == 3) = false := beq_eq_false_iff_ne.2 h3
  have f4 : (k == 4) = false := beq_eq_false_iff_ne.2 h4
  have f5 : (k == 5) = false := beq_eq_false_iff_ne.2 h5
  go_wp2
  go_ret
  refine ⟨?_, HB.out _ _⟩
  simp [alone, h1, h2, h3, h4, h5]
end Go.Proofs.YtjmbkkpglkbppaaDoor
