/- Types in memory: cells that read as a list of types; a slice that does. Nothing here speaks of the program. -/
import Derived.Test.YtjmbkkpglkbppaaDoorTyP
import Derived.WalkKit
import Derived.WalkSpells
import Derived.WalkLawsBesides
import Derived.Lib.Hide
namespace Go.Proofs.YtjmbkkpglkbppaaDoor
open Go.RowKit

/-- A slice value, as a list of types lies: nothing, or cells at an address, all below block B. -/
def TyV (B : Nat) (w : World) : Fo → Value → Prop
  | .nil, v => ∃ A c, v = .slice A 0 c
  | .cons k n u ps r, v => ∃ b off cap, v = .slice (some ⟨b, off, none⟩) (r.len + 1) cap ∧ r.len + 1 ≤ cap ∧ cap ≤ maxLen ∧ b < B ∧
      TyC B w (.cons k n u ps r) b off
where
  /-- The cells from an address on. -/
  TyC (B : Nat) (w : World) : Fo → Nat → Nat → Prop
  | .nil, _, _ => True
  | .cons k n u ps r, b, off => w.cell? ⟨b, off, none⟩ = some (.int .i64 k) ∧ w.cell? ⟨b, off + 1, none⟩ = some (.int .i64 n) ∧
      w.cell? ⟨b, off + 2, none⟩ = some (slv u) ∧ TyV B w ps (slv u) ∧ TyC B w r b (off + 3)
abbrev TyC := @TyV.TyC
theorem tyV_nil {B : Nat} {w : World} {v : Value} : TyV B w .nil v ↔ ∃ A c, v = .slice A 0 c := by rw [TyV]
theorem tyV_cons {B : Nat} {w : World} {k n : Int} {u : Sl} {ps r : Fo} {v : Value} : TyV B w (.cons k n u ps r) v ↔ ∃ b off cap, v = .slice (some ⟨b, off, none⟩) (r.len + 1) cap ∧ r.len + 1 ≤ cap ∧ cap ≤ maxLen ∧ b < B ∧
      TyC B w (.cons k n u ps r) b off := by rw [TyV]
theorem tyC_cons {B : Nat} {w : World} {k n : Int} {u : Sl} {ps r : Fo} {b off : Nat} : TyC B w (.cons k n u ps r) b off ↔ w.cell? ⟨b, off, none⟩ = some (.int .i64 k) ∧ w.cell? ⟨b, off + 1, none⟩ = some (.int .i64 n) ∧
      w.cell? ⟨b, off + 2, none⟩ = some (slv u) ∧ TyV B w ps (slv u) ∧ TyC B w r b (off + 3) := by unfold TyC; rw [TyV.TyC]
theorem tyC_nil {B : Nat} {w : World} {b off : Nat} : TyC B w .nil b off := by unfold TyC; rw [TyV.TyC]; trivial
theorem TyV.slice {B : Nat} {w : World} {f : Fo} {v : Value} (h : TyV B w f v) : ∃ A c, v = .slice A f.len c := by
  cases f with
  | nil => exact tyV_nil.1 h
  | cons k n u ps r =>
    obtain ⟨b, off, cap, rfl, _⟩ := tyV_cons.1 h
    exact ⟨_, _, rfl⟩
theorem TyV.form {B : Nat} {w : World} {f : Fo} {v : Value} (h : TyV B w f v) (hn : 0 < f.len) : ∃ b off cap, v = .slice (some ⟨b, off, none⟩) f.len cap ∧ f.len ≤ cap ∧ cap ≤ maxLen ∧ b < B ∧ TyC B w f b off := by
  cases f with
  | nil => simp [Fo.len] at hn
  | cons k n u ps r => exact tyV_cons.1 h
theorem tyC_at {B : Nat} {w : World} {f : Fo} {b off : Nat} (h : TyC B w f b off) (j : Nat) (hj : j < f.len) :
    w.cell? ⟨b, off + j * 3, none⟩ = some (.int .i64 (f.at_ j).1) ∧ w.cell? ⟨b, off + j * 3 + 1, none⟩ = some (.int .i64 (f.at_ j).2.1) ∧
      w.cell? ⟨b, off + j * 3 + 2, none⟩ = some (slv (f.at_ j).2.2.1) ∧ TyV B w (f.at_ j).2.2.2 (slv (f.at_ j).2.2.1) := by
  induction f generalizing off j with
  | nil => simp [Fo.len] at hj
  | cons k n u ps r _ ih =>
    obtain ⟨h1, h2, h3, h3', h4⟩ := tyC_cons.1 h
    cases j with
    | zero => simpa [Fo.at_] using ⟨h1, h2, h3, h3'⟩
    | succ j =>
      have := ih h4 j (by simp [Fo.len] at hj; omega)
      rw [show off + (j + 1) * 3 = off + 3 + j * 3 by omega]
      exact this
theorem ty_keep {B B' : Nat} {w w' : World} (hB : B ≤ B') (hk : ∀ b off, b < B → w'.cell? ⟨b, off, none⟩ = w.cell? ⟨b, off, none⟩) (f : Fo) :
    (∀ v, TyV B w f v → TyV B' w' f v) ∧ (∀ b off, b < B → TyC B w f b off → TyC B' w' f b off) := by
  induction f with
  | nil => exact ⟨fun v h => tyV_nil.2 (tyV_nil.1 h), fun _ _ _ _ => tyC_nil⟩
  | cons k n u ps r ih1 ih2 =>
    have hc : ∀ b off, b < B → TyC B w (.cons k n u ps r) b off → TyC B' w' (.cons k n u ps r) b off := by
      intro b off hb h
      obtain ⟨h1, h2, h3, h4, h5⟩ := tyC_cons.1 h
      exact tyC_cons.2 ⟨(hk _ _ hb).trans h1, (hk _ _ hb).trans h2, (hk _ _ hb).trans h3, ih1.1 (slv u) h4, ih2.2 _ _ hb h5⟩
    refine ⟨fun v h => ?_, hc⟩
    obtain ⟨b, off, cap, hv, h1, h2, h3, h4⟩ := tyV_cons.1 h
    exact tyV_cons.2 ⟨b, off, cap, hv, h1, h2, by omega, hc b off h3 h4⟩
theorem TyV.keep {B B' : Nat} {w w' : World} {f : Fo} {v : Value} (h : TyV B w f v) (hB : B ≤ B') (hk : ∀ b off, b < B → w'.cell? ⟨b, off, none⟩ = w.cell? ⟨b, off, none⟩) : TyV B' w' f v := (ty_keep hB hk f).1 v h
theorem TyV.below {B : Nat} {w w' : World} {f : Fo} {v : Value} (h : TyV B w f v) (hb : Below B w w') : TyV B w' f v := h.keep (Nat.le_refl _) fun b off hlt => hb.cell (p := ⟨b, off, none⟩) hlt
/-- A type as a value: its kind, its number, its parts. -/
def tyVal (k n : Int) (v : Value) : Value := .agg #[.int .i64 k, .int .i64 n, v]
end Go.Proofs.YtjmbkkpglkbppaaDoor
