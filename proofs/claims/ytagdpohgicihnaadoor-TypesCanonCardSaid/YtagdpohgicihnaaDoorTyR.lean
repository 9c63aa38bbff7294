/- types.Depth: level by level: the plain facts. -/
import Derived.Test.YtagdpohgicihnaaDoorTyK
import Derived.Test.YtagdpohgicihnaaDoorTyE
namespace Go.Proofs.YtagdpohgicihnaaDoor
open Go.RowKit
namespace Fo
/-- The parts of a list's types, one behind the other. -/
def kids : Fo → Fo
  | nil => nil
  | cons _ _ _ ps r => ps.app r.kids
theorem kids_app (f g : Fo) : (f.app g).kids = f.kids.app g.kids := by
  induction f with
  | nil => rfl
  | cons k n u ps r _ ih => simp [app, kids, ih, app_assoc]
theorem size_kids (f : Fo) : f.size = f.len + f.kids.size := by
  induction f with
  | nil => rfl
  | cons k n u ps r _ ih => simp only [size, len, kids, size_app]; omega
theorem depth_kids (f : Fo) : (f.len = 0 → f.depth = 0) ∧ (0 < f.len → f.depth = 1 + f.kids.depth) := by
  induction f with
  | nil => exact ⟨fun _ => rfl, fun h => absurd h (Nat.lt_irrefl 0)⟩
  | cons k n u ps r _ ih =>
    refine ⟨fun h => by simp [len] at h, fun _ => ?_⟩
    simp only [depth, kids, depth_app]
    rcases Nat.eq_zero_or_pos r.len with h0 | h0
    · have h1 := ih.1 h0
      have h2 : r.kids.depth = 0 := by
        cases r with
        | nil => rfl
        | cons => simp [len] at h0
      omega
    · have h1 := ih.2 h0
      omega
theorem kids_take (f : Fo) (j : Nat) (hj : j < f.len) : (f.take (j + 1)).kids = (f.take j).kids.app (f.at_ j).2.2.2 := by
  rw [take_step f j hj, kids_app]
  simp [kids, app_nil]
end Fo
theorem TyL.kids {B : Nat} {w : World} {f : Fo} (h : TyL B w f) : TyL B w f.kids := by
  induction f with
  | nil => trivial
  | cons _ _ _ ps r _ ih => exact (h.1.list).app (ih h.2)
/-- A slice of types reads as its cells. -/
theorem TyV.rd3 {B : Nat} {w : World} {f : Fo} {v : Value} (hB : B ≤ w.heap.size) (h : TyV B w f v) : Rd w 3 v f.len (f.top.flatMap trC) := by
  refine ⟨by rw [trC_len, Fo.top_len], ?_⟩
  rcases Nat.eq_zero_or_pos f.len with h0 | h0
  · obtain ⟨A, c, hv⟩ := h.slice
    exact .inl ⟨h0, A, c, by rw [hv, h0]⟩
  · obtain ⟨b, off, cap, hv, h1, h2, h3, hC⟩ := h.form h0
    refine .inr ⟨b, off, cap, hv, h1, h2, by omega, ?_⟩
    clear hv h1 h2 h0 h
    induction f generalizing off with
    | nil => intro j u hu; simp [Fo.top] at hu
    | cons k n u ps r _ ih =>
      obtain ⟨c0, c1, c2, _, hr⟩ := tyC_cons.1 hC
      intro j x hx
      simp only [Fo.top, List.flatMap_cons, trC, List.cons_append, List.nil_append] at hx
      match j, hx with
      | 0, hx => simp at hx; subst hx; exact c0
      | 1, hx => simp at hx; subst hx; exact c1
      | 2, hx => simp at hx; subst hx; exact c2
      | j + 3, hx =>
        simp only [List.getElem?_cons_succ] at hx
        have := ih (off + 3) hr j x hx
        rwa [show off + (j + 3) = off + 3 + j by omega]
end Go.Proofs.YtagdpohgicihnaaDoor
