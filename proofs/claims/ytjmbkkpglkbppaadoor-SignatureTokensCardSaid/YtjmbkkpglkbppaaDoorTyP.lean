/- Plain facts on types: a list of types as a first-order thing; size, depth, variables. Nothing here speaks of the program. -/
import Derived.WalkKit
namespace Go.Proofs.YtjmbkkpglkbppaaDoor

/-- A slice: its address, its length, its capacity. -/
abbrev Sl := Option Addr × Nat × Nat
def slv (s : Sl) : Value := .slice s.1 s.2.1 s.2.2
/-- A list of types: each has a kind, a number, and a list of parts, which lies at a value. -/
inductive Fo where
  | nil : Fo
  | cons (k n : Int) (v : Sl) (ps rest : Fo) : Fo
namespace Fo
def len : Fo → Nat
  | nil => 0
  | cons _ _ _ _ r => r.len + 1
/-- All types in a list, with their parts. -/
def size : Fo → Nat
  | nil => 0
  | cons _ _ _ ps r => 1 + ps.size + r.size
/-- The depth of the deepest one. -/
def depth : Fo → Nat
  | nil => 0
  | cons _ _ _ ps r => max (1 + ps.depth) r.depth
def app : Fo → Fo → Fo
  | nil, g => g
  | cons k n v ps r, g => cons k n v ps (r.app g)
def drop : Nat → Fo → Fo
  | 0, f => f
  | _ + 1, nil => nil
  | j + 1, cons _ _ _ _ r => r.drop j
def take : Nat → Fo → Fo
  | 0, _ => nil
  | _ + 1, nil => nil
  | j + 1, cons k n v ps r => cons k n v ps (r.take j)
/-- The one at a place: its kind, its number, its parts. -/
def at_ : Nat → Fo → Int × Int × Sl × Fo
  | _, nil => (0, 0, (none, 0, 0), nil)
  | 0, cons k n v ps _ => (k, n, v, ps)
  | j + 1, cons _ _ _ _ r => r.at_ j
theorem size_app (f g : Fo) : (f.app g).size = f.size + g.size := by
  induction f with
  | nil => simp [app, size]
  | cons k n v ps r _ ih => simp [app, size, ih]; omega
theorem len_app (f g : Fo) : (f.app g).len = f.len + g.len := by
  induction f with
  | nil => simp [app, len]
  | cons k n v ps r _ ih => simp [app, len, ih]; omega
theorem app_nil (f : Fo) : f.app nil = f := by
  induction f with
  | nil => rfl
  | cons k n v ps r _ ih => simp [app, ih]
theorem app_assoc (f g h : Fo) : (f.app g).app h = f.app (g.app h) := by
  induction f with
  | nil => rfl
  | cons k n v ps r _ ih => simp [app, ih]
theorem len_le_size (f : Fo) : f.len ≤ f.size := by
  induction f with
  | nil => simp [len]
  | cons k n v ps r _ ih => simp [len, size]; omega
theorem drop_step (f : Fo) (j : Nat) (hj : j < f.len) : f.drop j = cons (f.at_ j).1 (f.at_ j).2.1 (f.at_ j).2.2.1 (f.at_ j).2.2.2 (f.drop (j + 1)) := by
  induction f generalizing j with
  | nil => simp [len] at hj
  | cons k n v ps r _ ih =>
    cases j with
    | zero => simp [drop, at_]
    | succ j => simp only [drop, at_]; exact ih j (by simp [len] at hj; omega)
theorem drop_len (f : Fo) : f.drop f.len = nil := by
  induction f with
  | nil => rfl
  | cons k n v ps r _ ih => simpa [len, drop] using ih
theorem drop_zero (f : Fo) : f.drop 0 = f := by cases f <;> rfl
theorem take_zero (f : Fo) : f.take 0 = nil := by cases f <;> rfl
theorem take_len (f : Fo) : f.take f.len = f := by
  induction f with
  | nil => rfl
  | cons k n v ps r _ ih => simp [len, take, ih]
theorem take_step (f : Fo) (j : Nat) (hj : j < f.len) : f.take (j + 1) = (f.take j).app (cons (f.at_ j).1 (f.at_ j).2.1 (f.at_ j).2.2.1 (f.at_ j).2.2.2 nil) := by
  induction f generalizing j with
  | nil => simp [len] at hj
  | cons k n v ps r _ ih =>
    cases j with
    | zero => simp [take, at_, app]
    | succ j => simp only [take, at_, app]; rw [ih j (by simp [len] at hj; omega)]
theorem at_size (f : Fo) (j : Nat) (hj : j < f.len) : (f.at_ j).2.2.2.size < f.size := by
  induction f generalizing j with
  | nil => simp [len] at hj
  | cons k n v ps r _ ih =>
    cases j with
    | zero => simp [at_, size]; omega
    | succ j => have := ih j (by simp [len] at hj; omega); simp [at_, size]; omega
theorem size_drop_step (f : Fo) (j : Nat) (hj : j < f.len) : (f.drop j).size = 1 + (f.at_ j).2.2.2.size + (f.drop (j + 1)).size := by
  rw [drop_step f j hj, size]
theorem size_take_step (f : Fo) (j : Nat) (hj : j < f.len) : (f.take (j + 1)).size = (f.take j).size + (1 + (f.at_ j).2.2.2.size) := by
  rw [take_step f j hj, size_app]
  simp [size]
theorem at_depth (f : Fo) (j : Nat) (hj : j < f.len) : (f.at_ j).2.2.2.depth + 1 ≤ f.depth := by
  induction f generalizing j with
  | nil => simp [len] at hj
  | cons k n v ps r _ ih =>
    cases j with
    | zero => simp [at_, depth]; omega
    | succ j => have := ih j (by simp [len] at hj; omega); simp [at_, depth]; omega
theorem size_take_le (f : Fo) (j : Nat) : (f.take j).size ≤ f.size := by
  induction f generalizing j with
  | nil => cases j <;> simp [take]
  | cons k n v ps r _ ih =>
    cases j with
    | zero => simp [take, size]
    | succ j => have := ih j; simp [take, size]; omega
end Fo
end Go.Proofs.YtjmbkkpglkbppaaDoor
