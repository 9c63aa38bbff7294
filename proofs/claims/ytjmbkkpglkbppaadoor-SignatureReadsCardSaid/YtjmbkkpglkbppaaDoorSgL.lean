/- SignatureLevels. -/
import Derived.Test.YtjmbkkpglkbppaaDoorSgK
import Derived.Test.YtjmbkkpglkbppaaDoorSgN
import Derived.Test.YtjmbkkpglkbppaaDoorTyL
namespace Go.Proofs.YtjmbkkpglkbppaaDoor
open Go.RowKit Go.Shelf

theorem same_img {f g h : Fo} (a : Img id f g) (b : Img id f h) : g.same h = true := by
  induction f generalizing g h with
  | nil => cases g <;> cases h <;> simp_all [Img, Fo.same]
  | cons k n u ps r ih1 ih2 =>
    cases g with
    | nil => simp [Img] at a
    | cons k1 n1 u1 ps1 r1 =>
      cases h with
      | nil => simp [Img] at b
      | cons k2 n2 u2 ps2 r2 =>
        obtain ⟨e1, e2, e3, e4⟩ := a
        obtain ⟨e1', e2', e3', e4'⟩ := b
        simp [Fo.same, e1, e1', e2, e2', ih1 e3 e3', ih2 e4 e4']
theorem tk_in (ts : List TV) (i : Int) (h : (tkOf namedB ts).sg i ≠ 0 ∨ (tkOf namedB ts).bs i ≠ none) : 0 ≤ i ∧ i < ts.length := by
  by_cases ho : i < 0 ∨ (ts.length : Int) ≤ i
  · exfalso
    have ht := tokAt_out ts i ho
    rcases h with h | h
    · apply h
      show sgOf ts i = 0
      simp [sgOf, seesB, ht]
    · apply h
      show namedB (tokAt ts i) = none
      rw [ht]
      simp [namedB]
  · omega
end Go.Proofs.YtjmbkkpglkbppaaDoor
