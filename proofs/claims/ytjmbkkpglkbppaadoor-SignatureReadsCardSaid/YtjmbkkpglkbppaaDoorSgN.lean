/- Types read from tokens: how great they are at most. Nothing here speaks of the program. -/
import Derived.Test.YtjmbkkpglkbppaaDoorSgP
namespace Go.Proofs.YtjmbkkpglkbppaaDoor

def tsz (t : Ty) : Nat := 1 + t.2.2.size
def lsz (l : List Ty) : Nat := (l.map tsz).sum
theorem tyL_size (l : List Ty) : (tyL l).size = lsz l := by
  induction l with
  | nil => rfl
  | cons t r ih => simp only [tyL, Fo.size, ih, lsz, List.map_cons, List.sum_cons, tsz]
theorem lsz_snoc (l : List Ty) (t : Ty) : lsz (l ++ [t]) = lsz l + tsz t := by simp [lsz]
theorem endT_size (b : Fr) (t : Ty) : tsz (endT b t) ≤ 1 + lsz b.parts + tsz t := by
  have h : lsz (b.parts ++ [t]) = lsz b.parts + tsz t := lsz_snoc _ _
  unfold endT
  split
  · simp only [tsz, tyL_size] at *
    omega
  · generalize hl : b.parts ++ [t] = l at *
    match l with
    | [] => simp at hl
    | [x] => have h2 : lsz [x] = tsz x := by simp [lsz]
             simp only [tupTy]; omega
    | x :: y :: r => simp only [tupTy, tsz, tyL_size] at *; omega
def frsz (K : List Fr) : Nat := (K.map fun b => 1 + lsz b.parts).sum
theorem frsz_cons (b : Fr) (K : List Fr) : frsz (b :: K) = 1 + lsz b.parts + frsz K := by simp [frsz]
def Pos.wt : Pos → Nat
  | first _ _ K => frsz K
  | behind t _ _ K => tsz t + frsz K
  | ends t _ _ K => tsz t + frsz K
theorem M.size {S : Tk} {most : Int} {p : Pos} {o : Out} (h : M S most p o) : ∀ t j, o = .done t j → (tsz t : Int) ≤ p.wt + (j - p.i) := by
  induction h with
  | open_ h hl n ih => intro t j he; have := ih t j he; simp only [Pos.wt, Pos.i, frsz_cons, lsz, List.map_nil, List.sum_nil] at *; omega
  | deep => intro t j he; cases he
  | none => intro t j he; cases he
  | leaf h hb x ih => intro t j he; have := ih t j he; simp only [Pos.wt, Pos.i, tsz, Fo.size] at *; omega
  | arrow h hl n ih => intro t j he; have := ih t j he; simp only [Pos.wt, Pos.i, frsz_cons, lsz, List.map_cons, List.map_nil, List.sum_cons, List.sum_nil] at *; omega
  | adeep => intro t j he; cases he
  | over h n ih => intro t j he; have := ih t j he; simp only [Pos.wt, Pos.i] at *; omega
  | whole => intro t j he; cases he; simp only [Pos.wt, Pos.i, frsz, List.map_nil, List.sum_nil]; omega
  | @out t i lev l ps K o n ih => intro t' j he; have := ih t' j he; have h2 := endT_size ⟨true, l, ps⟩ t; simp only [Pos.wt, Pos.i, frsz_cons] at *; omega
  | @close t i lev l ps K o h n ih => intro t' j he; have := ih t' j he; have h2 := endT_size ⟨false, l, ps⟩ t; simp only [Pos.wt, Pos.i, frsz_cons] at *; omega
  | form => intro t j he; cases he
  | many => intro t j he; cases he
  | more h hp n ih => intro t' j he; have := ih t' j he; simp only [Pos.wt, Pos.i, frsz_cons, lsz_snoc] at *; omega
theorem M.end_ {S : Tk} {most : Int} {N : Int} (hS : ∀ i, (S.sg i ≠ 0 ∨ S.bs i ≠ Option.none) → i < N) {p : Pos} {o : Out} (h : M S most p o) : o.pos ≤ p.i ∨ o.pos ≤ N := by
  induction h with
  | @open_ i _ _ _ h hl n ih => have := hS i (.inl (by omega)); simp only [Pos.i, Out.pos] at *; omega
  | @deep i _ _ h hl => have := hS i (.inl (by omega)); simp only [Pos.i, Out.pos] at *; omega
  | none => left; simp only [Pos.i, Out.pos]; omega
  | @leaf i _ _ _ _ _ h hb x ih => have := hS i (.inr (by rw [hb]; simp)); simp only [Pos.i] at *; omega
  | @arrow _ i _ _ _ h hl n ih => have := hS i (.inl (by omega)); simp only [Pos.i] at *; omega
  | @adeep _ i _ _ h hl => have := hS i (.inl (by omega)); simp only [Pos.i, Out.pos] at *; omega
  | over h n ih => simpa only [Pos.i] using ih
  | whole => left; simp only [Pos.i, Out.pos]; omega
  | out n ih => simpa only [Pos.i] using ih
  | @close _ i _ _ _ _ _ h n ih => have := hS i (.inl (by omega)); simp only [Pos.i] at *; omega
  | form => left; simp only [Pos.i, Out.pos]; omega
  | many => left; simp only [Pos.i, Out.pos]; omega
  | @more _ i _ _ _ _ _ h hp n ih => have := hS i (.inl (by omega)); simp only [Pos.i] at *; omega
/-- What is read of so many tokens is no greater. -/
theorem RdIs.small {S : Tk} {most : Int} {N : Int} (hN : 0 ≤ N) (hS : ∀ i, (S.sg i ≠ 0 ∨ S.bs i ≠ Option.none) → 0 ≤ i ∧ i < N) {i lev : Int} {o : Out} (h : RdIs S most i lev o) : (o.ty.2.2.size : Int) ≤ N := by
  rcases h with ⟨_, rfl⟩ | ⟨_, h⟩
  · simp [Out.ty, Fo.size]; exact hN
  · cases o with
    | err e j => simp [Out.ty, Fo.size]; exact hN
    | done t j =>
      by_cases hi : 0 ≤ i
      · have h1 := h.size t j rfl
        have h2 := h.end_ (fun i hi => (hS i hi).2)
        simp only [Pos.wt, Pos.i, frsz, List.map_nil, List.sum_nil, Out.pos, tsz, Out.ty] at *
        omega
      · cases h with
        | open_ h => have := hS i (.inl (by omega)); omega
        | leaf h hb => have := hS i (.inr (by rw [hb]; simp)); omega
end Go.Proofs.YtjmbkkpglkbppaaDoor
