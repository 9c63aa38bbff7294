/- The chapter's example: what is asked of it besides. -/
import Derived.Test.YtjmbkkpglkbppaaDoorPrG
import Derived.Test.YtjmbkkpglkbppaaDoorChB
import Derived.Test.YtjmbkkpglkbppaaDoorTyL
import Derived.Test.YtjmbkkpglkbppaaDoorTyG
namespace Go.Proofs.YtjmbkkpglkbppaaDoor
open Go.RowKit Go.Shelf

theorem Img.txts {f g : Fo} (h : Img idn f g) : g.txts = f.txts := by
  induction f generalizing g with
  | nil => cases g <;> simp_all [Img, Fo.txts]
  | cons k n u ps r ih1 ih2 =>
    cases g with
    | nil => simp [Img] at h
    | cons k' n' u' ps' r' =>
      simp only [Img, nm_id] at h
      obtain ⟨rfl, rfl, h3, h4⟩ := h
      simp only [Fo.txts, ih1 h3, ih2 h4]
theorem Img.ok {f g : Fo} (h : Img idn f g) : g.ok = f.ok := by
  induction f generalizing g with
  | nil => cases g <;> simp_all [Img, Fo.ok]
  | cons k n u ps r ih1 ih2 =>
    cases g with
    | nil => simp [Img] at h
    | cons k' n' u' ps' r' =>
      have hl := (show ps'.len = ps.len from Img.len (num := idn) (by simp only [Img] at h; exact h.2.2.1))
      simp only [Img, nm_id] at h
      obtain ⟨rfl, rfl, h3, h4⟩ := h
      simp only [Fo.ok, ih1 h3, ih2 h4, hl]
theorem Img.trans {f g h : Fo} (a : Img idn f g) (b : Img idn g h) : Img idn f h := by
  induction f generalizing g h with
  | nil =>
    cases g with
    | nil => exact b
    | cons => simp [Img] at a
  | cons k n u ps r ih1 ih2 =>
    cases g with
    | nil => simp [Img] at a
    | cons k' n' u' ps' r' =>
      cases h with
      | nil => simp [Img] at b
      | cons k2 n2 u2 ps2 r2 =>
        simp only [Img, nm_id] at a b ⊢
        exact ⟨b.1.trans a.1, b.2.1.trans a.2.1, ih1 a.2.2.1 b.2.2.1, ih2 a.2.2.2 b.2.2.2⟩
theorem Img.same {f g : Fo} (h : Img idn f g) : f.same g = true := by
  induction f generalizing g with
  | nil => cases g <;> simp_all [Img, Fo.same]
  | cons k n u ps r ih1 ih2 =>
    cases g with
    | nil => simp [Img] at h
    | cons k' n' u' ps' r' =>
      simp only [Img, nm_id] at h
      obtain ⟨rfl, rfl, h3, h4⟩ := h
      simp [Fo.same, ih1 h3, ih2 h4]
/-- Two types at an address. -/
theorem two_cells {X : World} (g cp : Nat) (k0 n0 k1 n1 : Int) (u0 u1 : Sl) (f0 f1 : Fo) (hg : g < X.heap.size) (hcp : 2 ≤ cp) (hcm : cp ≤ maxLen) (c0 : X.cell? ⟨g, 0, none⟩ = some (.int .i64 k0)) (c1 : X.cell? ⟨g, 1, none⟩ = some (.int .i64 n0)) (c2 : X.cell? ⟨g, 2, none⟩ = some (slv u0)) (c3 : X.cell? ⟨g, 3, none⟩ = some (.int .i64 k1)) (c4 : X.cell? ⟨g, 4, none⟩ = some (.int .i64 n1)) (c5 : X.cell? ⟨g, 5, none⟩ = some (slv u1)) (h0 : TyV X.heap.size X f0 (slv u0)) (h1 : TyV X.heap.size X f1 (slv u1)) : TyV X.heap.size X (.cons k0 n0 u0 f0 (.cons k1 n1 u1 f1 .nil)) (.slice (some ⟨g, 0, none⟩) 2 cp) :=
  tyV_cons.2 ⟨g, 0, cp, rfl, hcp, hcm, hg, tyC_cons.2 ⟨c0, c1, c2, h0, tyC_cons.2 ⟨c3, c4, c5, h1, tyC_nil⟩⟩⟩
theorem no_parts (B : Nat) (w : World) : TyV B w .nil (slv (none, 0, 0)) := tyV_nil.2 ⟨none, 0, rfl⟩
end Go.Proofs.YtjmbkkpglkbppaaDoor
