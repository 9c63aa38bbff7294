/- A type that is copied, its variables' numbers changed: what lies still to be done (holes), and that the whole reads as it ought once they are done. Nothing here speaks of the program. -/
import Derived.Test.YtjmbkkpglkbppaaDoorTyM
import Derived.Test.YtjmbkkpglkbppaaDoorTyE
namespace Go.Proofs.YtjmbkkpglkbppaaDoor
open Go.RowKit

/-- A place where a type still lies as it came. -/
structure Hole where
  b : Nat
  off : Nat
  k : Int
  n : Int
  u : Sl
  ps : Fo
/-- What becomes of a number. -/
def nm (num : Int → Int) (k n : Int) : Int := if k = 1 then num n else n
/-- The one is the other, its variables' numbers changed. -/
def Img (num : Int → Int) : Fo → Fo → Prop
  | .nil, .nil => True
  | .cons k n _ ps r, .cons k' n' _ ps' r' => k' = k ∧ n' = nm num k n ∧ Img num ps ps' ∧ Img num r r'
  | _, _ => False
theorem Img.len {num : Int → Int} {f g : Fo} (h : Img num f g) : g.len = f.len := by
  induction f generalizing g with
  | nil => cases g <;> simp_all [Img, Fo.len]
  | cons k n u ps r _ ih =>
    cases g with
    | nil => simp [Img] at h
    | cons k' n' u' ps' r' => simp only [Img] at h; simp only [Fo.len, ih h.2.2.2]
theorem Img.size {num : Int → Int} {f g : Fo} (h : Img num f g) : g.size = f.size := by
  induction f generalizing g with
  | nil => cases g <;> simp_all [Img, Fo.size]
  | cons k n u ps r ih1 ih =>
    cases g with
    | nil => simp [Img] at h
    | cons k' n' u' ps' r' => simp only [Img] at h; simp only [Fo.size, ih h.2.2.2, ih1 h.2.2.1]
/-- A type's three cells at a place, its parts behind. -/
def TyAt (W : World) (b off : Nat) (k n : Int) (g : Fo) : Prop :=
  W.cell? ⟨b, off, none⟩ = some (.int .i64 k) ∧ W.cell? ⟨b, off + 1, none⟩ = some (.int .i64 n) ∧ ∃ u : Sl, W.cell? ⟨b, off + 2, none⟩ = some (slv u) ∧ TyV W.heap.size W g (slv u)
/-- A block of types, but for the one at rt. -/
def isT (T : TypeId) (rt : Nat) (w : World) (b : Nat) : Prop := b ≠ rt ∧ ∃ cs, w.heap[b]? = some (Obj.cells cs T)
theorem isT.lt {T : TypeId} {rt : Nat} {w : World} {b : Nat} (h : isT T rt w b) : b < w.heap.size := by
  obtain ⟨_, cs, h⟩ := h
  exact (Array.getElem?_eq_some_iff.1 h).1
/-- Aside of some holes. -/
def Aside (Hs : List Hole) (b off : Nat) : Prop := ∀ h ∈ Hs, h.b = b → off < h.off ∨ h.off + 3 ≤ off
/-- Once the holes are done, the whole is. -/
def Wand (num : Int → Int) (T : TypeId) (rt : Nat) (B : Nat) (rb : Nat) (k n : Int) (ps : Fo) (w : World) (Hs : List Hole) : Prop :=
  ∀ W : World, w.heap.size ≤ W.heap.size → (∀ h ∈ Hs, ∃ g, Img num h.ps g ∧ TyAt W h.b h.off h.k (nm num h.k h.n) g) →
    (∀ b off, B ≤ b → isT T rt w b → Aside Hs b off → W.cell? ⟨b, off, none⟩ = w.cell? ⟨b, off, none⟩) → ∃ g, Img num ps g ∧ TyAt W rb 0 k (nm num k n) g
/-- The holes of a new list. -/
def holesOf (c : Nat) : Nat → Fo → List Hole
  | _, .nil => []
  | off, .cons k n u ps r => ⟨c, off, k, n, u, ps⟩ :: holesOf c (off + 3) r
theorem holesOf_len (c off : Nat) (f : Fo) : (holesOf c off f).length = f.len := by
  induction f generalizing off with
  | nil => rfl
  | cons k n u ps r _ ih => simp [holesOf, Fo.len, ih]
theorem holesOf_b {c off : Nat} {f : Fo} {h : Hole} (hm : h ∈ holesOf c off f) : h.b = c ∧ off ≤ h.off := by
  induction f generalizing off with
  | nil => simp [holesOf] at hm
  | cons k n u ps r _ ih =>
    simp only [holesOf, List.mem_cons] at hm
    rcases hm with rfl | hm
    · exact ⟨rfl, Nat.le_refl _⟩
    · have := ih hm; exact ⟨this.1, by omega⟩
/-- Apart. -/
def Apart (x y : Hole) : Prop := x.b = y.b → x.off + 3 ≤ y.off ∨ y.off + 3 ≤ x.off
theorem holesOf_apart (c off : Nat) (f : Fo) : (holesOf c off f).Pairwise Apart := by
  induction f generalizing off with
  | nil => exact List.Pairwise.nil
  | cons k n u ps r _ ih =>
    refine List.Pairwise.cons (fun h hm _ => .inl ?_) (ih (off + 3))
    exact (holesOf_b hm).2
/-- The sum of what is left. -/
def left_ (Hs : List Hole) : Nat := (Hs.map fun h => 1 + h.ps.size).sum
theorem left_app (a b : List Hole) : left_ (a ++ b) = left_ a + left_ b := by simp [left_]
theorem left_holes (c off : Nat) (f : Fo) : left_ (holesOf c off f) = f.size := by
  induction f generalizing off with
  | nil => rfl
  | cons k n u ps r _ ih => simp only [holesOf, left_, List.map_cons, List.sum_cons, Fo.size]; have := ih (off + 3); simp only [left_] at this; omega
theorem left_len (Hs : List Hole) : Hs.length ≤ left_ Hs := by
  induction Hs with
  | nil => simp [left_]
  | cons h l ih => simp only [left_, List.map_cons, List.sum_cons, List.length_cons] at ih ⊢; omega
theorem holes_read {num : Int → Int} {W : World} {c : Nat} (f : Fo) (off : Nat) (h : ∀ h ∈ holesOf c off f, ∃ g, Img num h.ps g ∧ TyAt W h.b h.off h.k (nm num h.k h.n) g) : ∃ G, Img num f G ∧ TyC W.heap.size W G c off := by
  induction f generalizing off with
  | nil => exact ⟨.nil, trivial, tyC_nil⟩
  | cons k n u ps r _ ih =>
    obtain ⟨G, hG, hC⟩ := ih (off + 3) (fun x hx => h x (by simp only [holesOf]; exact List.mem_cons_of_mem _ hx))
    obtain ⟨g, hg, c0, c1, u2, c2, hv⟩ := h ⟨c, off, k, n, u, ps⟩ (by simp only [holesOf]; exact List.mem_cons_self)
    exact ⟨.cons k (nm num k n) u2 g G, ⟨rfl, rfl, hg, hG⟩, tyC_cons.2 ⟨c0, c1, c2, hv, hC⟩⟩
theorem Wand.step {num : Int → Int} {T : TypeId} {rt : Nat} {B rb : Nat} {k n : Int} {ps : Fo} {w w2 : World} {Hs : List Hole} {h : Hole} (hW : Wand num T rt B rb k n ps w (Hs ++ [h]))
    (hap : ∀ x ∈ Hs, Apart x h) (hB : B ≤ h.b) (hT : isT T rt w h.b)
    (hs : w.heap.size ≤ w2.heap.size) (hk : ∀ b off, B ≤ b → isT T rt w b → isT T rt w2 b ∧ (Aside [h] b off → w2.cell? ⟨b, off, none⟩ = w.cell? ⟨b, off, none⟩))
    {u2 : Sl} (h0 : w2.cell? ⟨h.b, h.off, none⟩ = some (.int .i64 h.k)) (h1 : w2.cell? ⟨h.b, h.off + 1, none⟩ = some (.int .i64 (nm num h.k h.n))) (h2 : w2.cell? ⟨h.b, h.off + 2, none⟩ = some (slv u2))
    {c : Nat} (hc : w.heap.size ≤ c) (hu : (h.ps.len = 0 ∧ ∃ A cp, u2 = (A, 0, cp)) ∨ (0 < h.ps.len ∧ c < w2.heap.size ∧ ∃ cp, u2 = (some ⟨c, 0, none⟩, h.ps.len, cp) ∧ h.ps.len ≤ cp ∧ cp ≤ maxLen)) :
    Wand num T rt B rb k n ps w2 (Hs ++ holesOf c 0 h.ps) := by
  intro W hsz hdone hfr
  have out : ∀ b off, b < w.heap.size → Aside Hs b off → Aside (Hs ++ holesOf c 0 h.ps) b off := by
    intro b off hb ha x hx hxb
    rcases List.mem_append.1 hx with hx | hx
    · exact ha x hx hxb
    · have := (holesOf_b hx).1
      omega
  have inH : ∀ j, j < 3 → Aside Hs h.b (h.off + j) := by
    intro j hj x hx hxb
    rcases hap x hx hxb with h' | h'
    · exact .inr (by omega)
    · exact .inl (by omega)
  have hat : ∀ j, j < 3 → W.cell? ⟨h.b, h.off + j, none⟩ = w2.cell? ⟨h.b, h.off + j, none⟩ := fun j hj => hfr h.b _ hB (hk h.b 0 hB hT).1 (out _ _ hT.lt (inH j hj))
  refine hW W (Nat.le_trans hs hsz) ?_ ?_
  · intro x hx
    rcases List.mem_append.1 hx with hx | hx
    · exact hdone x (List.mem_append_left _ hx)
    · have hxh : x = h := by simpa using hx
      rw [hxh]
      obtain ⟨G, hG, hC⟩ := holes_read h.ps 0 (fun y hy => hdone y (List.mem_append_right _ hy))
      refine ⟨G, hG, (hat 0 (by omega)).trans h0, (hat 1 (by omega)).trans h1, u2, (hat 2 (by omega)).trans h2, ?_⟩
      have hGl := hG.len
      rcases hu with ⟨hz, A, cp, rfl⟩ | ⟨hp, hc2, cp, rfl, hcp, hcm⟩
      · cases G with
        | nil => exact tyV_nil.2 ⟨A, cp, rfl⟩
        | cons => simp only [Fo.len] at hGl; omega
      · cases G with
        | nil => simp only [Fo.len] at hGl; omega
        | cons k' n' u' ps' r' =>
          simp only [Fo.len] at hGl
          exact tyV_cons.2 ⟨c, 0, cp, by rw [hGl]; rfl, by omega, hcm, by omega, hC⟩
  · intro b off hb hbT ha
    have hA1 : Aside Hs b off := fun x hx => ha x (List.mem_append_left _ hx)
    have hA2 : Aside [h] b off := fun x hx => ha x (List.mem_append_right _ hx)
    rw [hfr b off hb (hk b off hb hbT).1 (out b off hbT.lt hA1)]
    exact (hk b off hb hbT).2 hA2
end Go.Proofs.YtjmbkkpglkbppaaDoor
