/- The answer's Depth. -/
import Derived.Test.YtjmbkkpglkbppaaDoorTyA
namespace Go.Proofs.YtjmbkkpglkbppaaDoor
open Go.RowKit

namespace Fo
theorem depth_app (f g : Fo) : (f.app g).depth = max f.depth g.depth := by
  induction f with
  | nil => simp [app, depth]
  | cons k n u ps r _ ih => simp [app, depth, ih] <;> omega
theorem depth_le_size (f : Fo) : f.depth ≤ f.size := by
  induction f with
  | nil => simp [depth]
  | cons k n u ps r ih1 ih2 => simp only [depth, size]; omega
theorem depth_take_step (f : Fo) (j : Nat) (hj : j < f.len) : (f.take (j + 1)).depth = max (f.take j).depth (1 + (f.at_ j).2.2.2.depth) := by
  rw [take_step f j hj, depth_app]
  simp [depth]
theorem depth_take_le (f : Fo) (j : Nat) : (f.take j).depth ≤ f.depth := by
  induction f generalizing j with
  | nil => cases j <;> simp [take]
  | cons k n u ps r _ ih =>
    cases j with
    | zero => simp [take, depth]
    | succ j => have := ih j; simp only [take, depth]; omega
end Fo
end Go.Proofs.YtjmbkkpglkbppaaDoor
