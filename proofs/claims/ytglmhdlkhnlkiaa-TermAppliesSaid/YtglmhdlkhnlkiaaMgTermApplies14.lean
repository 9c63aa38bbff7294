/- Texts of one proof, one behind the other. -/
import Derived.Test.YtglmhdlkhnlkiaaMgTermApplies8
import Derived.Test.YtglmhdlkhnlkiaaMgTermApplies4
import Derived.Test.YtglmhdlkhnlkiaaMgTermApplies5
/- types.Depth: level by level: the plain facts. -/
namespace Go.Proofs.Ytglmhdlkhnlkiaa
open Go.RowKit
namespace Fo
/-- The parts of a list's types, one behind the other. -/
def kids : Fo → Fo
  | nil => nil
  | cons _ _ _ ps r => ps.app r.kids
theorem kids_app (f g : Fo) : (f.app g).kids = f.kids.app g.kids := by
  induction f with
  | nil => rfl
  | cons k n u ps r _ ih => simp [app, kids, ih, app_assoc]
theorem size_kids (f : Fo) : f.size = f.len + f.kids.size := by
  induction f with
  | nil => rfl
  | cons k n u ps r _ ih => simp only [size, len, kids, size_app]; omega
theorem depth_kids (f : Fo) : (f.len = 0 → f.depth = 0) ∧ (0 < f.len → f.depth = 1 + f.kids.depth) := by
  induction f with
  | nil => exact ⟨fun _ => rfl, fun h => absurd h (Nat.lt_irrefl 0)⟩
  | cons k n u ps r _ ih =>
    refine ⟨fun h => by simp [len] at h, fun _ => ?_⟩
    simp only [depth, kids, depth_app]
    rcases Nat.eq_zero_or_pos r.len with h0 | h0
    · have h1 := ih.1 h0
      have h2 : r.kids.depth = 0 := by
        cases r with
        | nil => rfl
        | cons => simp [len] at h0
      omega
    · have h1 := ih.2 h0
      omega
theorem kids_take (f : Fo) (j : Nat) (hj : j < f.len) : (f.take (j + 1)).kids = (f.take j).kids.app (f.at_ j).2.2.2 := by
  rw [take_step f j hj, kids_app]
  simp [kids, app_nil]
end Fo
theorem TyL.kids {B : Nat} {w : World} {f : Fo} (h : TyL B w f) : TyL B w f.kids := by
  induction f with
  | nil => trivial
  | cons _ _ _ ps r _ ih => exact (h.1.list).app (ih h.2)
/-- A slice of types reads as its cells. -/
theorem TyV.rd3 {B : Nat} {w : World} {f : Fo} {v : Value} (hB : B ≤ w.heap.size) (h : TyV B w f v) : Rd w 3 v f.len (f.top.flatMap trC) := by
  refine ⟨by rw [trC_len, Fo.top_len], ?_⟩
  rcases Nat.eq_zero_or_pos f.len with h0 | h0
  · obtain ⟨A, c, hv⟩ := h.slice
    exact .inl ⟨h0, A, c, by rw [hv, h0]⟩
  · obtain ⟨b, off, cap, hv, h1, h2, h3, hC⟩ := h.form h0
    refine .inr ⟨b, off, cap, hv, h1, h2, by omega, ?_⟩
    clear hv h1 h2 h0 h
    induction f generalizing off with
    | nil => intro j u hu; simp [Fo.top] at hu
    | cons k n u ps r _ ih =>
      obtain ⟨c0, c1, c2, _, hr⟩ := tyC_cons.1 hC
      intro j x hx
      simp only [Fo.top, List.flatMap_cons, trC, List.cons_append, List.nil_append] at hx
      match j, hx with
      | 0, hx => simp at hx; subst hx; exact c0
      | 1, hx => simp at hx; subst hx; exact c1
      | 2, hx => simp at hx; subst hx; exact c2
      | j + 3, hx =>
        simp only [List.getElem?_cons_succ] at hx
        have := ih (off + 3) hr j x hx
        rwa [show off + (j + 3) = off + 3 + j by omega]
end Go.Proofs.Ytglmhdlkhnlkiaa
/- types.Depth. -/
namespace Go.Proofs.Ytglmhdlkhnlkiaa
open Go.RowKit
attribute [local go_sem ↓] builtin_app
theorem trC_one (L : List Tr) : ∀ u ∈ L.flatMap trC, u.oneCell' = true := by
  intro u hu
  obtain ⟨x, _, hx⟩ := List.mem_flatMap.1 hu
  simp only [trC, List.mem_cons, List.not_mem_nil, or_false] at hx
  rcases hx with rfl | rfl | rfl <;> rfl
theorem top_at (F : Fo) (j : Nat) (hj : j < F.len) : (F.top.flatMap trC)[j * 3]? = some (.int .i64 (F.at_ j).1) ∧ (F.top.flatMap trC)[j * 3 + 1]? = some (.int .i64 (F.at_ j).2.1) ∧ (F.top.flatMap trC)[j * 3 + 2]? = some (slv (F.at_ j).2.2.1) := by
  induction F generalizing j with
  | nil => simp [Fo.len] at hj
  | cons k n u ps r _ ih =>
    cases j with
    | zero => simp [Fo.top, trC, Fo.at_]
    | succ j =>
      have := ih j (by simp [Fo.len] at hj; omega)
      simp only [Fo.top, List.flatMap_cons, trC, Fo.at_, List.cons_append, List.nil_append]
      rw [show (j + 1) * 3 = j * 3 + 1 + 1 + 1 by omega]
      simp only [List.getElem?_cons_succ]
      exact this
theorem TyL.at {B : Nat} {w : World} {F : Fo} (h : TyL B w F) (j : Nat) (hj : j < F.len) : TyV B w (F.at_ j).2.2.2 (slv (F.at_ j).2.2.1) := by
  induction F generalizing j with
  | nil => simp [Fo.len] at hj
  | cons k n u ps r _ ih =>
    cases j with
    | zero => exact h.1
    | succ j => exact ih h.2 j (by simp [Fo.len] at hj; omega)
/-- Between two levels. -/
def DInv (w : World) (D N : Nat) (t3 t4 : Value) (wr : World) (s : Nat) : Prop :=
  ∃ (F : Fo) (d : Nat), F.size = s ∧ t3 = .int .i64 d ∧ d + F.depth = D ∧ F.size ≤ N ∧ Rd wr 3 t4 F.len (F.top.flatMap trC) ∧ TyL w.heap.size wr F ∧ Below w.heap.size w wr
end Go.Proofs.Ytglmhdlkhnlkiaa
