/- types.all: types and all that they are made of, each ahead of its parts: the plain facts, and what lies in memory. -/
import Derived.Test.YtjmbkkpglkbppaaDoorTyC
import Derived.Test.YtjmbkkpglkbppaaDoorTyD
namespace Go.Proofs.YtjmbkkpglkbppaaDoor
open Go.RowKit Go.Shelf
attribute [local go_sem] Oper.semAt_some

namespace Fo
/-- The types of a list themselves. -/
def top : Fo → List Tr
  | nil => []
  | cons k n u _ r => (k, n, u) :: r.top
/-- All of them, each ahead of its parts. -/
def pre : Fo → List Tr
  | nil => []
  | cons k n u ps r => (k, n, u) :: (ps.pre ++ r.pre)
theorem top_len (f : Fo) : f.top.length = f.len := by
  induction f with
  | nil => rfl
  | cons k n u ps r _ ih => simp [top, len, ih]
theorem pre_len (f : Fo) : f.pre.length = f.size := by
  induction f with
  | nil => rfl
  | cons k n u ps r ih1 ih2 => simp [pre, size, ih1, ih2]; omega
theorem top_app (f g : Fo) : (f.app g).top = f.top ++ g.top := by
  induction f with
  | nil => rfl
  | cons k n u ps r _ ih => simp [top, app, ih]
theorem pre_app (f g : Fo) : (f.app g).pre = f.pre ++ g.pre := by
  induction f with
  | nil => rfl
  | cons k n u ps r _ ih => simp [pre, app, ih]
/-- What is left when the first one gave way to its parts. -/
theorem pre_next (k n : Int) (u : Sl) (ps r : Fo) : (cons k n u ps r).pre = (k, n, u) :: (ps.app r).pre := by simp [pre, pre_app]
end Fo
/-- Each type's parts lie at its slice. -/
def TyL (B : Nat) (w : World) : Fo → Prop
  | .nil => True
  | .cons _ _ u ps r => TyV B w ps (slv u) ∧ TyL B w r
theorem TyL.app {B : Nat} {w : World} {f g : Fo} (h : TyL B w f) (k : TyL B w g) : TyL B w (f.app g) := by
  induction f with
  | nil => exact k
  | cons _ _ _ _ r _ ih => exact ⟨h.1, ih h.2⟩
theorem TyL.below {B : Nat} {w w' : World} {f : Fo} (h : TyL B w f) (hb : Below B w w') : TyL B w' f := by
  induction f with
  | nil => trivial
  | cons _ _ _ _ r _ ih => exact ⟨h.1.below hb, ih h.2⟩
theorem TyC.list {B : Nat} {w : World} {f : Fo} {b off : Nat} (h : TyC B w f b off) : TyL B w f := by
  induction f generalizing off with
  | nil => trivial
  | cons _ _ _ _ r _ ih => obtain ⟨_, _, _, h4, h5⟩ := tyC_cons.1 h; exact ⟨h4, ih h5⟩
theorem TyV.list {B : Nat} {w : World} {f : Fo} {v : Value} (h : TyV B w f v) : TyL B w f := by
  cases f with
  | nil => trivial
  | cons k n u ps r => obtain ⟨b, off, cap, _, _, _, _, hc⟩ := tyV_cons.1 h; exact TyC.list hc
theorem tyC_rd {B : Nat} {w : World} {f : Fo} {b off : Nat} (h : TyC B w f b off) : ∀ i (hi : i < f.top.length), w.cell? ⟨b, off + i * 3, none⟩ = some (.int .i64 f.top[i].1) ∧ w.cell? ⟨b, off + i * 3 + 1, none⟩ = some (.int .i64 f.top[i].2.1) ∧ w.cell? ⟨b, off + i * 3 + 2, none⟩ = some (slv f.top[i].2.2) := by
  induction f generalizing off with
  | nil => intro i hi; simp [Fo.top] at hi
  | cons k n u ps r _ ih =>
    obtain ⟨h1, h2, h3, _, h5⟩ := tyC_cons.1 h
    intro i hi
    cases i with
    | zero => simpa [Fo.top] using ⟨h1, h2, h3⟩
    | succ i =>
      have := ih h5 i (by simpa [Fo.top] using hi)
      rw [show off + (i + 1) * 3 = off + 3 + i * 3 by omega]
      simpa [Fo.top] using this
theorem TyV.rd {B : Nat} {w : World} {f : Fo} {v : Value} (h : TyV B w f v) : RdX B w v f.top := by
  cases f with
  | nil =>
    obtain ⟨A, c, rfl⟩ := tyV_nil.1 h
    exact ⟨A, c, rfl, fun h => by simp [Fo.top] at h⟩
  | cons k n u ps r =>
    obtain ⟨b, off, cap, rfl, _, _, hb, hc⟩ := tyV_cons.1 h
    exact ⟨_, cap, by rw [Fo.top_len]; rfl, fun _ => ⟨b, off, rfl, hb, tyC_rd hc⟩⟩
/-- The stack: the first type lies last. -/
def stk (R : Fo) : List Value := R.top.reverse.flatMap trC
theorem stk_cons (k n : Int) (u : Sl) (ps r : Fo) : stk (.cons k n u ps r) = stk r ++ trC (k, n, u) := by simp [stk, Fo.top]
theorem stk_app (f r : Fo) : stk (f.app r) = stk r ++ f.top.reverse.flatMap trC := by simp [stk, Fo.top_app]
theorem trC_len (L : List Tr) : (L.flatMap trC).length = L.length * 3 := by
  induction L with
  | nil => rfl
  | cons x L ih => simp [trC, ih]; omega
theorem stk_len (R : Fo) : (stk R).length = R.len * 3 := by rw [stk, trC_len]; simp [Fo.top_len]
/-- A row of the call's own, cut. -/
theorem own_cut {w : World} {base : Nat} {e : TypeId} {size : Nat} {A : Option Addr} {n c : Nat} {xs ys : List Value} (h : w.ownsRow base e size (.slice A n c) n (xs ++ ys)) (k : Nat) (hk : k ≤ n) (hx : xs.length = k * size) : w.ownsRow base e size (.slice A k c) k xs := by
  refine ⟨hx, ?_⟩
  rcases h.2 with ⟨h0, h1⟩ | ⟨g, cap, cur, h0, hb, hg, hnc, hcm, hcs, htake⟩
  · injection h0 with h2 h3 h4
    subst h2; subst h4
    obtain rfl : k = 0 := by omega
    exact .inl ⟨rfl, rfl⟩
  · injection h0 with h2 h3 h4
    subst h2; subst h4
    refine .inr ⟨g, c, cur, rfl, hb, hg, by omega, hcm, hcs, ?_⟩
    have : (cur.toList.take (n * size)).take (k * size) = (xs ++ ys).take (k * size) := by rw [htake]
    rw [List.take_take, Nat.min_eq_left (Nat.mul_le_mul_right _ hk)] at this
    rw [this, ← hx, List.take_left]
/-- What a round keeps: whatever lay below B, and every block of types. -/
structure KpC (B : Nat) (W W' : World) : Prop where
  below : Below B W W'
  kept : ∀ (k : Nat) (cs : Array Value), W.heap[k]? = some (Obj.cells cs 28) → W'.heap[k]? = some (Obj.cells cs 28)
theorem KpC.t {B : Nat} {X Y Z : World} (h : KpC B X Y) (k : KpC B Y Z) : KpC B X Z := ⟨h.below.trans k.below, fun i cs hi => k.kept i cs (h.kept i cs hi)⟩
theorem KpC.b {B : Nat} {w : World} (hn : B ≤ w.heap.size) (W : World) (l : Nat) (o o' : Obj) (hl : w.heap.size ≤ l) (h : W.heap[l]? = some o) (h1 : o.isCells = false) (h2 : o.isWalk = false) : KpC B W (W.putObj l o') := by
  refine ⟨belowK_b hn W l o o' hl h h1 h2, fun k cs hk => ?_⟩
  refine ((grownBy_putObj' W l o').block k (Array.getElem?_eq_some_iff.1 hk).1 fun e => ?_).trans hk
  cases e
  rw [h] at hk
  cases hk
  cases h1
theorem KpC.of_below {B : Nat} {W W' : World} (h : Below W.heap.size W W') (hB : B ≤ W.heap.size) : KpC B W W' :=
  ⟨h.mono hB, fun k _ hk => (h.block k (Array.getElem?_eq_some_iff.1 hk).1).trans hk⟩
theorem KpC.own {B base : Nat} {W W' : World} {v : Value} {n : Nat} {xs : List Value} (h : KpC B W W') (ho : W.ownsRow base 28 3 v n xs) : W'.ownsRow base 28 3 v n xs := by
  refine ⟨ho.1, ?_⟩
  rcases ho.2 with h0 | ⟨g, cap, cur, h0, hb, hg, hr⟩
  · exact .inl h0
  · exact .inr ⟨g, cap, cur, h0, hb, h.kept _ _ hg, hr⟩
end Go.Proofs.YtjmbkkpglkbppaaDoor
