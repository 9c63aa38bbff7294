/- Texts of one proof, one behind the other. -/
import Derived.Test.YtglmhdlkhnlkiaaMgTermStops1
import Derived.Test.YtglmhdlkhnlkiaaMgTermStops4
/- Plain facts on terms: a list of terms as a first-order thing; size, depth. Nothing here speaks of the program. -/
namespace Go.Proofs.Ytglmhdlkhnlkiaa

/-- A term but for its parts: its kind, name, number, type (kind, number, where its parts lie, and what they are), where its parts lie, its span. -/
structure Nd where
  k : Int
  s : ByteArray
  n : Int
  tk : Int
  tn : Int
  tu : Sl
  ty : Fo
  u : Sl
  a : Int
  b : Int
/-- A list of terms. -/
inductive Te where
  | nil : Te
  | cons (x : Nd) (ps rest : Te) : Te
def nd0 : Nd := ⟨0, ByteArray.empty, 0, 0, 0, (none, 0, 0), .nil, (none, 0, 0), 0, 0⟩
/-- A term, with its parts. -/
abbrev Tm := Nd × Te
namespace Te
def len : Te → Nat
  | nil => 0
  | cons _ _ r => r.len + 1
/-- All terms in a list, with their parts. -/
def size : Te → Nat
  | nil => 0
  | cons _ ps r => 1 + ps.size + r.size
/-- The depth of the deepest one. -/
def depth : Te → Nat
  | nil => 0
  | cons _ ps r => max (1 + ps.depth) r.depth
def app : Te → Te → Te
  | nil, g => g
  | cons x ps r, g => cons x ps (r.app g)
def drop : Nat → Te → Te
  | 0, f => f
  | _ + 1, nil => nil
  | j + 1, cons _ _ r => r.drop j
def take : Nat → Te → Te
  | 0, _ => nil
  | _ + 1, nil => nil
  | j + 1, cons x ps r => cons x ps (r.take j)
/-- The one at a place. -/
def at_ : Nat → Te → Tm
  | _, nil => (nd0, nil)
  | 0, cons x ps _ => (x, ps)
  | j + 1, cons _ _ r => r.at_ j
/-- The terms of a list themselves. -/
def top : Te → List Tm
  | nil => []
  | cons x ps r => (x, ps) :: r.top
/-- All of them, each ahead of its parts. -/
def pre : Te → List Tm
  | nil => []
  | cons x ps r => (x, ps) :: (ps.pre ++ r.pre)
theorem size_app (f g : Te) : (f.app g).size = f.size + g.size := by
  induction f with
  | nil => simp [app, size]
  | cons x ps r _ ih => simp [app, size, ih]; omega
theorem len_app (f g : Te) : (f.app g).len = f.len + g.len := by
  induction f with
  | nil => simp [app, len]
  | cons x ps r _ ih => simp [app, len, ih]; omega
theorem app_nil (f : Te) : f.app nil = f := by
  induction f with
  | nil => rfl
  | cons x ps r _ ih => simp [app, ih]
theorem app_assoc (f g h : Te) : (f.app g).app h = f.app (g.app h) := by
  induction f with
  | nil => rfl
  | cons x ps r _ ih => simp [app, ih]
theorem len_le_size (f : Te) : f.len ≤ f.size := by
  induction f with
  | nil => simp [len]
  | cons x ps r _ ih => simp [len, size]; omega
theorem drop_step (f : Te) (j : Nat) (hj : j < f.len) : f.drop j = cons (f.at_ j).1 (f.at_ j).2 (f.drop (j + 1)) := by
  induction f generalizing j with
  | nil => simp [len] at hj
  | cons x ps r _ ih =>
    cases j with
    | zero => simp [drop, at_]
    | succ j => simp only [drop, at_]; exact ih j (by simp [len] at hj; omega)
theorem drop_len (f : Te) : f.drop f.len = nil := by
  induction f with
  | nil => rfl
  | cons x ps r _ ih => simpa [len, drop] using ih
theorem drop_zero (f : Te) : f.drop 0 = f := by cases f <;> rfl
theorem take_zero (f : Te) : f.take 0 = nil := by cases f <;> rfl
theorem take_len (f : Te) : f.take f.len = f := by
  induction f with
  | nil => rfl
  | cons x ps r _ ih => simp [len, take, ih]
theorem len_take (f : Te) (j : Nat) (hj : j ≤ f.len) : (f.take j).len = j := by
  induction f generalizing j with
  | nil => simp [len] at hj; subst hj; rfl
  | cons x ps r _ ih =>
    cases j with
    | zero => rfl
    | succ j => simp only [take, len]; rw [ih j (by simp [len] at hj; omega)]
theorem take_step (f : Te) (j : Nat) (hj : j < f.len) : f.take (j + 1) = (f.take j).app (cons (f.at_ j).1 (f.at_ j).2 nil) := by
  induction f generalizing j with
  | nil => simp [len] at hj
  | cons x ps r _ ih =>
    cases j with
    | zero => simp [take, at_, app]
    | succ j => simp only [take, at_, app]; rw [ih j (by simp [len] at hj; omega)]
theorem at_size (f : Te) (j : Nat) (hj : j < f.len) : (f.at_ j).2.size < f.size := by
  induction f generalizing j with
  | nil => simp [len] at hj
  | cons x ps r _ ih =>
    cases j with
    | zero => simp [at_, size]; omega
    | succ j => have := ih j (by simp [len] at hj; omega); simp [at_, size]; omega
theorem size_drop_step (f : Te) (j : Nat) (hj : j < f.len) : (f.drop j).size = 1 + (f.at_ j).2.size + (f.drop (j + 1)).size := by
  rw [drop_step f j hj, size]
theorem size_take_step (f : Te) (j : Nat) (hj : j < f.len) : (f.take (j + 1)).size = (f.take j).size + (1 + (f.at_ j).2.size) := by
  rw [take_step f j hj, size_app]
  simp [size]
theorem at_depth (f : Te) (j : Nat) (hj : j < f.len) : (f.at_ j).2.depth + 1 ≤ f.depth := by
  induction f generalizing j with
  | nil => simp [len] at hj
  | cons x ps r _ ih =>
    cases j with
    | zero => simp [at_, depth]; omega
    | succ j => have := ih j (by simp [len] at hj; omega); simp [at_, depth]; omega
theorem size_take_le (f : Te) (j : Nat) : (f.take j).size ≤ f.size := by
  induction f generalizing j with
  | nil => cases j <;> simp [take]
  | cons x ps r _ ih =>
    cases j with
    | zero => simp [take, size]
    | succ j => have := ih j; simp [take, size]; omega
theorem depth_app (f g : Te) : (f.app g).depth = max f.depth g.depth := by
  induction f with
  | nil => simp [app, depth]
  | cons x ps r _ ih => simp [app, depth, ih] <;> omega
theorem depth_le_size (f : Te) : f.depth ≤ f.size := by
  induction f with
  | nil => simp [depth]
  | cons x ps r ih1 ih2 => simp only [depth, size]; omega
theorem depth_take_step (f : Te) (j : Nat) (hj : j < f.len) : (f.take (j + 1)).depth = max (f.take j).depth (1 + (f.at_ j).2.depth) := by
  rw [take_step f j hj, depth_app]
  simp [depth]
theorem depth_take_le (f : Te) (j : Nat) : (f.take j).depth ≤ f.depth := by
  induction f generalizing j with
  | nil => cases j <;> simp [take]
  | cons x ps r _ ih =>
    cases j with
    | zero => simp [take, depth]
    | succ j => have := ih j; simp only [take, depth]; omega
theorem top_len (f : Te) : f.top.length = f.len := by
  induction f with
  | nil => rfl
  | cons x ps r _ ih => simp [top, len, ih]
theorem pre_len (f : Te) : f.pre.length = f.size := by
  induction f with
  | nil => rfl
  | cons x ps r ih1 ih2 => simp [pre, size, ih1, ih2]; omega
theorem top_app (f g : Te) : (f.app g).top = f.top ++ g.top := by
  induction f with
  | nil => rfl
  | cons x ps r _ ih => simp [top, app, ih]
theorem pre_app (f g : Te) : (f.app g).pre = f.pre ++ g.pre := by
  induction f with
  | nil => rfl
  | cons x ps r _ ih => simp [pre, app, ih]
/-- What is left when the first one gave way to its parts. -/
theorem pre_next (x : Nd) (ps r : Te) : (cons x ps r).pre = (x, ps) :: (ps.app r).pre := by simp [pre, pre_app]
theorem pre_take_step (f : Te) (j : Nat) (hj : j < f.len) : (f.take (j + 1)).pre = (f.take j).pre ++ ((f.at_ j) :: (f.at_ j).2.pre) := by
  rw [take_step f j hj, pre_app]
  simp [pre]
theorem at_pre (f : Te) (j : Nat) (hj : j < f.len) : f.at_ j ∈ f.pre := by
  induction f generalizing j with
  | nil => simp [len] at hj
  | cons x ps r _ ih =>
    cases j with
    | zero => simp [at_, pre]
    | succ j => simp only [at_, pre, List.mem_cons, List.mem_append]; exact .inr (.inr (ih j (by simp [len] at hj; omega)))
theorem top_at (f : Te) (j : Nat) (hj : j < f.len) : f.top.take (j + 1) = f.top.take j ++ [f.at_ j] := by
  induction f generalizing j with
  | nil => simp [len] at hj
  | cons x ps r _ ih =>
    cases j with
    | zero => simp [top, at_]
    | succ j => simp only [top, at_, List.take_succ_cons, List.cons_append]; rw [ih j (by simp [len] at hj; omega)]
/-- The last one. -/
theorem last (F : Te) (q : Nat) (h : F.len = q + 1) : ∃ (F' : Te) (x : Nd) (ps : Te), F = F'.app (.cons x ps .nil) ∧ F'.len = q := by
  induction F generalizing q with
  | nil => simp [len] at h
  | cons x ps r _ ih =>
    cases r with
    | nil => exact ⟨.nil, x, ps, rfl, by simp [len] at h ⊢; omega⟩
    | cons x' ps' r' =>
      cases q with
      | zero => simp [len] at h
      | succ q =>
        obtain ⟨F', c, d, h1, h2⟩ := ih q (by simp [len] at h ⊢; omega)
        exact ⟨.cons x ps F', c, d, by rw [h1]; rfl, by simp [len, h2]⟩
end Te
end Go.Proofs.Ytglmhdlkhnlkiaa
/- Terms in memory: cells that read as a list of terms; a slice that does. Nothing here speaks of the program. -/
namespace Go.Proofs.Ytglmhdlkhnlkiaa
open Go.RowKit

/-- A term's nine cells, as they are. -/
def ndC (x : Nd) : List Value := [.int .i64 x.k, .string x.s, .int .i64 x.n, .int .i64 x.tk, .int .i64 x.tn, slv x.tu, slv x.u, .int .i64 x.a, .int .i64 x.b]
/-- A term as a value. -/
def teVal (x : Nd) : Value := .agg #[.int .i64 x.k, .string x.s, .int .i64 x.n, .int .i64 x.tk, .int .i64 x.tn, slv x.tu, slv x.u, .int .i64 x.a, .int .i64 x.b]
/-- A term's cells at a place. -/
def NdAt (w : World) (b off : Nat) (x : Nd) : Prop :=
  w.cell? ⟨b, off, none⟩ = some (.int .i64 x.k) ∧ w.cell? ⟨b, off + 1, none⟩ = some (.string x.s) ∧ w.cell? ⟨b, off + 2, none⟩ = some (.int .i64 x.n) ∧ w.cell? ⟨b, off + 3, none⟩ = some (.int .i64 x.tk) ∧ w.cell? ⟨b, off + 4, none⟩ = some (.int .i64 x.tn) ∧ w.cell? ⟨b, off + 5, none⟩ = some (slv x.tu) ∧ w.cell? ⟨b, off + 6, none⟩ = some (slv x.u) ∧ w.cell? ⟨b, off + 7, none⟩ = some (.int .i64 x.a) ∧ w.cell? ⟨b, off + 8, none⟩ = some (.int .i64 x.b)
theorem NdAt.to {w w' : World} {b off : Nat} {x : Nd} (h : NdAt w b off x) (hk : ∀ i, i < 9 → w'.cell? ⟨b, off + i, none⟩ = w.cell? ⟨b, off + i, none⟩) : NdAt w' b off x :=
  ⟨(hk 0 (by omega)).trans h.1, (hk 1 (by omega)).trans h.2.1, (hk 2 (by omega)).trans h.2.2.1, (hk 3 (by omega)).trans h.2.2.2.1, (hk 4 (by omega)).trans h.2.2.2.2.1, (hk 5 (by omega)).trans h.2.2.2.2.2.1, (hk 6 (by omega)).trans h.2.2.2.2.2.2.1, (hk 7 (by omega)).trans h.2.2.2.2.2.2.2.1, (hk 8 (by omega)).trans h.2.2.2.2.2.2.2.2⟩
theorem NdAt.below {w w' : World} {B b off : Nat} {x : Nd} (h : NdAt w b off x) (hb : Below B w w') (hlt : b < B) : NdAt w' b off x := h.to fun i _ => hb.cell (p := ⟨b, off + i, none⟩) hlt
theorem NdAt.of_cells {w : World} {b off : Nat} {x : Nd} (h : ∀ j u, (ndC x)[j]? = some u → w.cell? ⟨b, off + j, none⟩ = some u) : NdAt w b off x :=
  ⟨h 0 _ rfl, h 1 _ rfl, h 2 _ rfl, h 3 _ rfl, h 4 _ rfl, h 5 _ rfl, h 6 _ rfl, h 7 _ rfl, h 8 _ rfl⟩
theorem NdAt.cells {w : World} {b off : Nat} {x : Nd} (h : NdAt w b off x) : ∀ j u, (ndC x)[j]? = some u → w.cell? ⟨b, off + j, none⟩ = some u := by
  intro j u hu
  obtain ⟨h0, h1, h2, h3, h4, h5, h6, h7, h8⟩ := h
  match j, hu with
  | 0, hu => simp [ndC] at hu; subst hu; exact h0
  | 1, hu => simp [ndC] at hu; subst hu; exact h1
  | 2, hu => simp [ndC] at hu; subst hu; exact h2
  | 3, hu => simp [ndC] at hu; subst hu; exact h3
  | 4, hu => simp [ndC] at hu; subst hu; exact h4
  | 5, hu => simp [ndC] at hu; subst hu; exact h5
  | 6, hu => simp [ndC] at hu; subst hu; exact h6
  | 7, hu => simp [ndC] at hu; subst hu; exact h7
  | 8, hu => simp [ndC] at hu; subst hu; exact h8
  | _ + 9, hu => simp [ndC] at hu
/-- A slice value, as a list of terms lies: nothing, or cells at an address, all below block B. -/
def TeV (B : Nat) (w : World) : Te → Value → Prop
  | .nil, v => ∃ A c, v = .slice A 0 c
  | .cons x ps r, v => ∃ b off cap, v = .slice (some ⟨b, off, none⟩) (r.len + 1) cap ∧ r.len + 1 ≤ cap ∧ cap ≤ maxLen ∧ b < B ∧
      TeC B w (.cons x ps r) b off
where
  /-- The cells from an address on. -/
  TeC (B : Nat) (w : World) : Te → Nat → Nat → Prop
  | .nil, _, _ => True
  | .cons x ps r, b, off => NdAt w b off x ∧ TyV B w x.ty (slv x.tu) ∧ TeV B w ps (slv x.u) ∧ TeC B w r b (off + 9)
abbrev TeC := @TeV.TeC
theorem teV_nil {B : Nat} {w : World} {v : Value} : TeV B w .nil v ↔ ∃ A c, v = .slice A 0 c := by rw [TeV]
theorem teV_cons {B : Nat} {w : World} {x : Nd} {ps r : Te} {v : Value} : TeV B w (.cons x ps r) v ↔ ∃ b off cap, v = .slice (some ⟨b, off, none⟩) (r.len + 1) cap ∧ r.len + 1 ≤ cap ∧ cap ≤ maxLen ∧ b < B ∧
      TeC B w (.cons x ps r) b off := by rw [TeV]
theorem teC_cons {B : Nat} {w : World} {x : Nd} {ps r : Te} {b off : Nat} : TeC B w (.cons x ps r) b off ↔ NdAt w b off x ∧ TyV B w x.ty (slv x.tu) ∧ TeV B w ps (slv x.u) ∧ TeC B w r b (off + 9) := by unfold TeC; rw [TeV.TeC]
theorem teC_nil {B : Nat} {w : World} {b off : Nat} : TeC B w .nil b off := by unfold TeC; rw [TeV.TeC]; trivial
theorem TeV.slice {B : Nat} {w : World} {f : Te} {v : Value} (h : TeV B w f v) : ∃ A c, v = .slice A f.len c := by
  cases f with
  | nil => exact teV_nil.1 h
  | cons x ps r =>
    obtain ⟨b, off, cap, rfl, _⟩ := teV_cons.1 h
    exact ⟨_, _, rfl⟩
theorem TeV.form {B : Nat} {w : World} {f : Te} {v : Value} (h : TeV B w f v) (hn : 0 < f.len) : ∃ b off cap, v = .slice (some ⟨b, off, none⟩) f.len cap ∧ f.len ≤ cap ∧ cap ≤ maxLen ∧ b < B ∧ TeC B w f b off := by
  cases f with
  | nil => simp [Te.len] at hn
  | cons x ps r => exact teV_cons.1 h
/-- A term's type and parts stand. -/
def TmL (B : Nat) (w : World) (t : Tm) : Prop := TyV B w t.1.ty (slv t.1.tu) ∧ TeV B w t.2 (slv t.1.u)
theorem teC_at {B : Nat} {w : World} {f : Te} {b off : Nat} (h : TeC B w f b off) (j : Nat) (hj : j < f.len) :
    NdAt w b (off + j * 9) (f.at_ j).1 ∧ TmL B w (f.at_ j) := by
  induction f generalizing off j with
  | nil => simp [Te.len] at hj
  | cons x ps r _ ih =>
    obtain ⟨h1, h2, h3, h4⟩ := teC_cons.1 h
    cases j with
    | zero => exact ⟨by simpa [Te.at_] using h1, by simpa [Te.at_, TmL] using ⟨h2, h3⟩⟩
    | succ j =>
      have := ih h4 j (by simp [Te.len] at hj; omega)
      rw [show off + (j + 1) * 9 = off + 9 + j * 9 by omega]
      exact this
theorem te_keep {B B' : Nat} {w w' : World} (hB : B ≤ B') (hk : ∀ b off, b < B → w'.cell? ⟨b, off, none⟩ = w.cell? ⟨b, off, none⟩) (f : Te) :
    (∀ v, TeV B w f v → TeV B' w' f v) ∧ (∀ b off, b < B → TeC B w f b off → TeC B' w' f b off) := by
  induction f with
  | nil => exact ⟨fun v h => teV_nil.2 (teV_nil.1 h), fun _ _ _ _ => teC_nil⟩
  | cons x ps r ih1 ih2 =>
    have hc : ∀ b off, b < B → TeC B w (.cons x ps r) b off → TeC B' w' (.cons x ps r) b off := by
      intro b off hb h
      obtain ⟨h1, h2, h3, h4⟩ := teC_cons.1 h
      exact teC_cons.2 ⟨h1.to fun i _ => hk _ _ hb, h2.keep hB hk, ih1.1 (slv x.u) h3, ih2.2 _ _ hb h4⟩
    refine ⟨fun v h => ?_, hc⟩
    obtain ⟨b, off, cap, hv, h1, h2, h3, h4⟩ := teV_cons.1 h
    exact teV_cons.2 ⟨b, off, cap, hv, h1, h2, by omega, hc b off h3 h4⟩
theorem TeV.keep {B B' : Nat} {w w' : World} {f : Te} {v : Value} (h : TeV B w f v) (hB : B ≤ B') (hk : ∀ b off, b < B → w'.cell? ⟨b, off, none⟩ = w.cell? ⟨b, off, none⟩) : TeV B' w' f v := (te_keep hB hk f).1 v h
theorem TeV.below {B : Nat} {w w' : World} {f : Te} {v : Value} (h : TeV B w f v) (hb : Below B w w') : TeV B w' f v := h.keep (Nat.le_refl _) fun b off hlt => hb.cell (p := ⟨b, off, none⟩) hlt
theorem TeV.up {B B' : Nat} {w w' : World} {f : Te} {v : Value} (h : TeV B w f v) (hb : Below B w w') (hB : B ≤ B') : TeV B' w' f v := h.keep hB fun b off hlt => hb.cell (p := ⟨b, off, none⟩) hlt
theorem TyV.up {B B' : Nat} {w w' : World} {f : Fo} {v : Value} (h : TyV B w f v) (hb : Below B w w') (hB : B ≤ B') : TyV B' w' f v := h.keep hB fun b off hlt => hb.cell (p := ⟨b, off, none⟩) hlt
theorem TmL.up {B B' : Nat} {w w' : World} {t : Tm} (h : TmL B w t) (hb : Below B w w') (hB : B ≤ B') : TmL B' w' t := ⟨h.1.up hb hB, h.2.up hb hB⟩
theorem TmL.below {B : Nat} {w w' : World} {t : Tm} (h : TmL B w t) (hb : Below B w w') : TmL B w' t := h.up hb (Nat.le_refl _)
theorem TmL.keep {B B' : Nat} {w w' : World} {t : Tm} (h : TmL B w t) (hB : B ≤ B') (hk : ∀ b off, b < B → w'.cell? ⟨b, off, none⟩ = w.cell? ⟨b, off, none⟩) : TmL B' w' t := ⟨h.1.keep hB hk, h.2.keep hB hk⟩
/-- Each term's type and parts lie at its slices. -/
def TeL (B : Nat) (w : World) : Te → Prop
  | .nil => True
  | .cons x ps r => TmL B w (x, ps) ∧ TeL B w r
theorem TeL.app {B : Nat} {w : World} {f g : Te} (h : TeL B w f) (k : TeL B w g) : TeL B w (f.app g) := by
  induction f with
  | nil => exact k
  | cons _ _ r _ ih => exact ⟨h.1, ih h.2⟩
theorem TeL.unapp {B : Nat} {w : World} {f g : Te} (h : TeL B w (f.app g)) : TeL B w f ∧ TeL B w g := by
  induction f with
  | nil => exact ⟨trivial, h⟩
  | cons _ _ r _ ih => exact ⟨⟨h.1, (ih h.2).1⟩, (ih h.2).2⟩
theorem TeL.up {B B' : Nat} {w w' : World} {f : Te} (h : TeL B w f) (hb : Below B w w') (hB : B ≤ B') : TeL B' w' f := by
  induction f with
  | nil => trivial
  | cons _ _ r _ ih => exact ⟨h.1.up hb hB, ih h.2⟩
theorem TeL.below {B : Nat} {w w' : World} {f : Te} (h : TeL B w f) (hb : Below B w w') : TeL B w' f := h.up hb (Nat.le_refl _)
theorem TeC.list {B : Nat} {w : World} {f : Te} {b off : Nat} (h : TeC B w f b off) : TeL B w f := by
  induction f generalizing off with
  | nil => trivial
  | cons _ _ r _ ih => obtain ⟨_, h2, h3, h4⟩ := teC_cons.1 h; exact ⟨⟨h2, h3⟩, ih h4⟩
theorem TeV.list {B : Nat} {w : World} {f : Te} {v : Value} (h : TeV B w f v) : TeL B w f := by
  cases f with
  | nil => trivial
  | cons x ps r => obtain ⟨b, off, cap, _, _, _, _, hc⟩ := teV_cons.1 h; exact TeC.list hc
/-- So do those of all its terms. -/
theorem TeL.pre {B : Nat} {w : World} {f : Te} (h : TeL B w f) : ∀ t ∈ f.pre, TmL B w t := by
  induction f with
  | nil => intro t ht; cases ht
  | cons x ps r ih1 ih2 =>
    intro t ht
    simp only [Te.pre, List.mem_cons, List.mem_append] at ht
    rcases ht with rfl | ht | ht
    · exact h.1
    · exact ih1 h.1.2.list t ht
    · exact ih2 h.2 t ht
end Go.Proofs.Ytglmhdlkhnlkiaa
/- A term that is copied: what lies still to be done (holes), and that the whole reads as it ought once they are done. Nothing here speaks of the program. -/
namespace Go.Proofs.Ytglmhdlkhnlkiaa
open Go.RowKit

/-- A place where a term still lies as it came. -/
structure EHole where
  b : Nat
  off : Nat
  x : Nd
  ps : Te
/-- The one is the other, in other memory. -/
def NdI (x y : Nd) : Prop := y.k = x.k ∧ y.s = x.s ∧ y.n = x.n ∧ y.tk = x.tk ∧ y.tn = x.tn ∧ Img idn x.ty y.ty ∧ y.a = x.a ∧ y.b = x.b
def TImg : Te → Te → Prop
  | .nil, .nil => True
  | .cons x ps r, .cons y ps' r' => NdI x y ∧ TImg ps ps' ∧ TImg r r'
  | _, _ => False
theorem TImg.len {f g : Te} (h : TImg f g) : g.len = f.len := by
  induction f generalizing g with
  | nil => cases g <;> simp_all [TImg, Te.len]
  | cons x ps r _ ih =>
    cases g with
    | nil => simp [TImg] at h
    | cons y ps' r' => simp only [TImg] at h; simp only [Te.len, ih h.2.2]
theorem TImg.size {f g : Te} (h : TImg f g) : g.size = f.size := by
  induction f generalizing g with
  | nil => cases g <;> simp_all [TImg, Te.size]
  | cons x ps r ih1 ih =>
    cases g with
    | nil => simp [TImg] at h
    | cons y ps' r' => simp only [TImg] at h; simp only [Te.size, ih h.2.2, ih1 h.2.1]
/-- Types that aren't too great to be copied. -/
def Te.tyb : Te → Prop
  | .nil => True
  | .cons x ps r => x.ty.size < 1000000 ∧ ps.tyb ∧ r.tyb
/-- A copy of a term stands at a place. -/
def EAt (W : World) (b off : Nat) (x : Nd) (ps : Te) : Prop := ∃ (y : Nd) (g : Te), NdI x y ∧ TImg ps g ∧ NdAt W b off y ∧ TyV W.heap.size W y.ty (slv y.tu) ∧ TeV W.heap.size W g (slv y.u)
/-- Aside of some holes. -/
def EAside (Hs : List EHole) (b off : Nat) : Prop := ∀ h ∈ Hs, h.b = b → off < h.off ∨ h.off + 9 ≤ off
/-- Once the holes are done, the whole is. -/
def EWand (T29 T24 : TypeId) (rt B rb : Nat) (x : Nd) (ps : Te) (w : World) (Hs : List EHole) : Prop :=
  ∀ W : World, w.heap.size ≤ W.heap.size → (∀ h ∈ Hs, EAt W h.b h.off h.x h.ps) →
    (∀ b off, B ≤ b → isT T29 rt w b → EAside Hs b off → W.cell? ⟨b, off, none⟩ = w.cell? ⟨b, off, none⟩) →
    (∀ (b : Nat) (cs : Array Value), B ≤ b → w.heap[b]? = some (Obj.cells cs T24) → W.heap[b]? = some (Obj.cells cs T24)) → EAt W rb 0 x ps
/-- The holes of a new list. -/
def eholesOf (c : Nat) : Nat → Te → List EHole
  | _, .nil => []
  | off, .cons x ps r => ⟨c, off, x, ps⟩ :: eholesOf c (off + 9) r
theorem eholesOf_len (c off : Nat) (f : Te) : (eholesOf c off f).length = f.len := by
  induction f generalizing off with
  | nil => rfl
  | cons x ps r _ ih => simp [eholesOf, Te.len, ih]
theorem eholesOf_b {c off : Nat} {f : Te} {h : EHole} (hm : h ∈ eholesOf c off f) : h.b = c ∧ off ≤ h.off := by
  induction f generalizing off with
  | nil => simp [eholesOf] at hm
  | cons x ps r _ ih =>
    simp only [eholesOf, List.mem_cons] at hm
    rcases hm with rfl | hm
    · exact ⟨rfl, Nat.le_refl _⟩
    · have := ih hm; exact ⟨this.1, by omega⟩
/-- Apart. -/
def EApart (x y : EHole) : Prop := x.b = y.b → x.off + 9 ≤ y.off ∨ y.off + 9 ≤ x.off
theorem eholesOf_apart (c off : Nat) (f : Te) : (eholesOf c off f).Pairwise EApart := by
  induction f generalizing off with
  | nil => exact List.Pairwise.nil
  | cons x ps r _ ih =>
    refine List.Pairwise.cons (fun h hm _ => .inl ?_) (ih (off + 9))
    exact (eholesOf_b hm).2
/-- The sum of what is left. -/
def eleft (Hs : List EHole) : Nat := (Hs.map fun h => 1 + h.ps.size).sum
theorem eleft_app (a b : List EHole) : eleft (a ++ b) = eleft a + eleft b := by simp [eleft]
theorem eleft_holes (c off : Nat) (f : Te) : eleft (eholesOf c off f) = f.size := by
  induction f generalizing off with
  | nil => rfl
  | cons x ps r _ ih => simp only [eholesOf, eleft, List.map_cons, List.sum_cons, Te.size]; have := ih (off + 9); simp only [eleft] at this; omega
theorem eleft_len (Hs : List EHole) : Hs.length ≤ eleft Hs := by
  induction Hs with
  | nil => simp [eleft]
  | cons h l ih => simp only [eleft, List.map_cons, List.sum_cons, List.length_cons] at ih ⊢; omega
theorem eholes_read {W : World} {c : Nat} (f : Te) (off : Nat) (h : ∀ h ∈ eholesOf c off f, EAt W h.b h.off h.x h.ps) : ∃ G, TImg f G ∧ TeC W.heap.size W G c off := by
  induction f generalizing off with
  | nil => exact ⟨.nil, trivial, teC_nil⟩
  | cons x ps r _ ih =>
    obtain ⟨G, hG, hC⟩ := ih (off + 9) (fun x hx => h x (by simp only [eholesOf]; exact List.mem_cons_of_mem _ hx))
    obtain ⟨y, g, hy, hg, hn, ht, hv⟩ := h ⟨c, off, x, ps⟩ (by simp only [eholesOf]; exact List.mem_cons_self)
    exact ⟨.cons y g G, ⟨hy, hg, hG⟩, teC_cons.2 ⟨hn, ht, hv, hC⟩⟩
theorem EWand.step {T29 T24 : TypeId} {rt B rb : Nat} {x : Nd} {ps : Te} {w w2 : World} {Hs : List EHole} {h : EHole} (hW : EWand T29 T24 rt B rb x ps w (Hs ++ [h]))
    (hap : ∀ x ∈ Hs, EApart x h) (hB : B ≤ h.b) (hT : isT T29 rt w h.b)
    (hs : w.heap.size ≤ w2.heap.size) (hk : ∀ b off, B ≤ b → isT T29 rt w b → isT T29 rt w2 b ∧ (EAside [h] b off → w2.cell? ⟨b, off, none⟩ = w.cell? ⟨b, off, none⟩))
    (hk24 : ∀ (b : Nat) (cs : Array Value), B ≤ b → w.heap[b]? = some (Obj.cells cs T24) → w2.heap[b]? = some (Obj.cells cs T24))
    {tu2 u2 : Sl} (hat2 : NdAt w2 h.b h.off { h.x with tu := tu2, u := u2 }) (hty : FreshT T24 B w2 idn h.x.ty tu2)
    {c : Nat} (hc : w.heap.size ≤ c) (hu : (h.ps.len = 0 ∧ ∃ A cp, u2 = (A, 0, cp)) ∨ (0 < h.ps.len ∧ c < w2.heap.size ∧ ∃ cp, u2 = (some ⟨c, 0, none⟩, h.ps.len, cp) ∧ h.ps.len ≤ cp ∧ cp ≤ maxLen)) :
    EWand T29 T24 rt B rb x ps w2 (Hs ++ eholesOf c 0 h.ps) := by
  intro W hsz hdone hfr hf24
  have out : ∀ b off, b < w.heap.size → EAside Hs b off → EAside (Hs ++ eholesOf c 0 h.ps) b off := by
    intro b off hb ha x hx hxb
    rcases List.mem_append.1 hx with hx | hx
    · exact ha x hx hxb
    · have := (eholesOf_b hx).1
      omega
  have inH : ∀ j, j < 9 → EAside Hs h.b (h.off + j) := by
    intro j hj x hx hxb
    rcases hap x hx hxb with h' | h'
    · exact .inr (by omega)
    · exact .inl (by omega)
  have hat : ∀ j, j < 9 → W.cell? ⟨h.b, h.off + j, none⟩ = w2.cell? ⟨h.b, h.off + j, none⟩ := fun j hj => hfr h.b _ hB (hk h.b 0 hB hT).1 (out _ _ hT.lt (inH j hj))
  refine hW W (Nat.le_trans hs hsz) ?_ ?_ (fun b cs hb hl => hf24 b cs hb (hk24 b cs hb hl))
  · intro x hx
    rcases List.mem_append.1 hx with hx | hx
    · exact hdone x (List.mem_append_left _ hx)
    · have hxh : x = h := by simpa using hx
      rw [hxh]
      obtain ⟨G, hG, hC⟩ := eholes_read h.ps 0 (fun y hy => hdone y (List.mem_append_right _ hy))
      obtain ⟨ty2, hI, hTy⟩ := hty W hsz hf24
      refine ⟨{ h.x with tu := tu2, u := u2, ty := ty2 }, G, ⟨rfl, rfl, rfl, rfl, rfl, hI, rfl, rfl⟩, hG, ?_, hTy, ?_⟩
      · exact NdAt.to (w := w2) hat2 hat
      have hGl := hG.len
      rcases hu with ⟨hz, A, cp, rfl⟩ | ⟨hp, hc2, cp, rfl, hcp, hcm⟩
      · cases G with
        | nil => exact teV_nil.2 ⟨A, cp, rfl⟩
        | cons => simp only [Te.len] at hGl; omega
      · cases G with
        | nil => simp only [Te.len] at hGl; omega
        | cons y' ps' r' =>
          simp only [Te.len] at hGl
          exact teV_cons.2 ⟨c, 0, cp, by rw [hGl]; rfl, by omega, hcm, by omega, hC⟩
  · intro b off hb hbT ha
    have hA1 : EAside Hs b off := fun x hx => ha x (List.mem_append_left _ hx)
    have hA2 : EAside [h] b off := fun x hx => ha x (List.mem_append_right _ hx)
    rw [hfr b off hb (hk b off hb hbT).1 (out b off hbT.lt hA1)]
    exact (hk b off hb hbT).2 hA2
theorem Te.tyb_pre {f : Te} (h : f.tyb) : ∀ t ∈ f.pre, t.1.ty.size < 1000000 ∧ t.2.tyb := by
  induction f with
  | nil => intro t ht; cases ht
  | cons x ps r ih1 ih2 =>
    intro t ht
    simp only [Te.pre, List.mem_cons, List.mem_append] at ht
    rcases ht with rfl | ht | ht
    · exact ⟨h.1, h.2.1⟩
    · exact ih1 h.2.1 t ht
    · exact ih2 h.2.2 t ht
theorem Te.size_pre (f : Te) : ∀ t ∈ f.pre, 1 + t.2.size ≤ f.size := by
  induction f with
  | nil => intro t ht; cases ht
  | cons x ps r ih1 ih2 =>
    intro t ht
    simp only [Te.pre, List.mem_cons, List.mem_append] at ht
    rcases ht with rfl | ht | ht
    · simp only [Te.size]; omega
    · have := ih1 t ht; simp only [Te.size]; omega
    · have := ih2 t ht; simp only [Te.size]; omega
end Go.Proofs.Ytglmhdlkhnlkiaa
