/- Texts of one proof, one behind the other. -/
import Derived.Test.YtglmhdlkhnlkiaaMgTermApplies1
import Derived.Test.YtglmhdlkhnlkiaaMgTermApplies2
/- Plain facts on terms: a list of terms as a first-order thing; size, depth. Nothing here speaks of the program. -/
namespace Go.Proofs.Ytglmhdlkhnlkiaa

/-- A term but for its parts: its kind, name, number, type (kind, number, where its parts lie, and what they are), where its parts lie, its span. -/
structure Nd where
  k : Int
  s : ByteArray
  n : Int
  tk : Int
  tn : Int
  tu : Sl
  ty : Fo
  u : Sl
  a : Int
  b : Int
/-- A list of terms. -/
inductive Te where
  | nil : Te
  | cons (x : Nd) (ps rest : Te) : Te
def nd0 : Nd := ⟨0, ByteArray.empty, 0, 0, 0, (none, 0, 0), .nil, (none, 0, 0), 0, 0⟩
/-- A term, with its parts. -/
abbrev Tm := Nd × Te
namespace Te
def len : Te → Nat
  | nil => 0
  | cons _ _ r => r.len + 1
/-- All terms in a list, with their parts. -/
def size : Te → Nat
  | nil => 0
  | cons _ ps r => 1 + ps.size + r.size
/-- The depth of the deepest one. -/
def depth : Te → Nat
  | nil => 0
  | cons _ ps r => max (1 + ps.depth) r.depth
def app : Te → Te → Te
  | nil, g => g
  | cons x ps r, g => cons x ps (r.app g)
def drop : Nat → Te → Te
  | 0, f => f
  | _ + 1, nil => nil
  | j + 1, cons _ _ r => r.drop j
def take : Nat → Te → Te
  | 0, _ => nil
  | _ + 1, nil => nil
  | j + 1, cons x ps r => cons x ps (r.take j)
/-- The one at a place. -/
def at_ : Nat → Te → Tm
  | _, nil => (nd0, nil)
  | 0, cons x ps _ => (x, ps)
  | j + 1, cons _ _ r => r.at_ j
/-- The terms of a list themselves. -/
def top : Te → List Tm
  | nil => []
  | cons x ps r => (x, ps) :: r.top
/-- All of them, each ahead of its parts. -/
def pre : Te → List Tm
  | nil => []
  | cons x ps r => (x, ps) :: (ps.pre ++ r.pre)
theorem size_app (f g : Te) : (f.app g).size = f.size + g.size := by
  induction f with
  | nil => simp [app, size]
  | cons x ps r _ ih => simp [app, size, ih]; omega
theorem len_app (f g : Te) : (f.app g).len = f.len + g.len := by
  induction f with
  | nil => simp [app, len]
  | cons x ps r _ ih => simp [app, len, ih]; omega
theorem app_nil (f : Te) : f.app nil = f := by
  induction f with
  | nil => rfl
  | cons x ps r _ ih => simp [app, ih]
theorem app_assoc (f g h : Te) : (f.app g).app h = f.app (g.app h) := by
  induction f with
  | nil => rfl
  | cons x ps r _ ih => simp [app, ih]
theorem len_le_size (f : Te) : f.len ≤ f.size := by
  induction f with
  | nil => simp [len]
  | cons x ps r _ ih => simp [len, size]; omega
theorem drop_step (f : Te) (j : Nat) (hj : j < f.len) : f.drop j = cons (f.at_ j).1 (f.at_ j).2 (f.drop (j + 1)) := by
  induction f generalizing j with
  | nil => simp [len] at hj
  | cons x ps r _ ih =>
    cases j with
    | zero => simp [drop, at_]
    | succ j => simp only [drop, at_]; exact ih j (by simp [len] at hj; omega)
theorem drop_len (f : Te) : f.drop f.len = nil := by
  induction f with
  | nil => rfl
  | cons x ps r _ ih => simpa [len, drop] using ih
theorem drop_zero (f : Te) : f.drop 0 = f := by cases f <;> rfl
theorem take_zero (f : Te) : f.take 0 = nil := by cases f <;> rfl
theorem take_len (f : Te) : f.take f.len = f := by
  induction f with
  | nil => rfl
  | cons x ps r _ ih => simp [len, take, ih]
theorem len_take (f : Te) (j : Nat) (hj : j ≤ f.len) : (f.take j).len = j := by
  induction f generalizing j with
  | nil => simp [len] at hj; subst hj; rfl
  | cons x ps r _ ih =>
    cases j with
    | zero => rfl
    | succ j => simp only [take, len]; rw [ih j (by simp [len] at hj; omega)]
theorem take_step (f : Te) (j : Nat) (hj : j < f.len) : f.take (j + 1) = (f.take j).app (cons (f.at_ j).1 (f.at_ j).2 nil) := by
  induction f generalizing j with
  | nil => simp [len] at hj
  | cons x ps r _ ih =>
    cases j with
    | zero => simp [take, at_, app]
    | succ j => simp only [take, at_, app]; rw [ih j (by simp [len] at hj; omega)]
theorem at_size (f : Te) (j : Nat) (hj : j < f.len) : (f.at_ j).2.size < f.size := by
  induction f generalizing j with
  | nil => simp [len] at hj
  | cons x ps r _ ih =>
    cases j with
    | zero => simp [at_, size]; omega
    | succ j => have := ih j (by simp [len] at hj; omega); simp [at_, size]; omega
theorem size_drop_step (f : Te) (j : Nat) (hj : j < f.len) : (f.drop j).size = 1 + (f.at_ j).2.size + (f.drop (j + 1)).size := by
  rw [drop_step f j hj, size]
theorem size_take_step (f : Te) (j : Nat) (hj : j < f.len) : (f.take (j + 1)).size = (f.take j).size + (1 + (f.at_ j).2.size) := by
  rw [take_step f j hj, size_app]
  simp [size]
theorem at_depth (f : Te) (j : Nat) (hj : j < f.len) : (f.at_ j).2.depth + 1 ≤ f.depth := by
  induction f generalizing j with
  | nil => simp [len] at hj
  | cons x ps r _ ih =>
    cases j with
    | zero => simp [at_, depth]; omega
    | succ j => have := ih j (by simp [len] at hj; omega); simp [at_, depth]; omega
theorem size_take_le (f : Te) (j : Nat) : (f.take j).size ≤ f.size := by
  induction f generalizing j with
  | nil => cases j <;> simp [take]
  | cons x ps r _ ih =>
    cases j with
    | zero => simp [take, size]
    | succ j => have := ih j; simp [take, size]; omega
theorem depth_app (f g : Te) : (f.app g).depth = max f.depth g.depth := by
  induction f with
  | nil => simp [app, depth]
  | cons x ps r _ ih => simp [app, depth, ih] <;> omega
theorem depth_le_size (f : Te) : f.depth ≤ f.size := by
  induction f with
  | nil => simp [depth]
  | cons x ps r ih1 ih2 => simp only [depth, size]; omega
theorem depth_take_step (f : Te) (j : Nat) (hj : j < f.len) : (f.take (j + 1)).depth = max (f.take j).depth (1 + (f.at_ j).2.depth) := by
  rw [take_step f j hj, depth_app]
  simp [depth]
theorem depth_take_le (f : Te) (j : Nat) : (f.take j).depth ≤ f.depth := by
  induction f generalizing j with
  | nil => cases j <;> simp [take]
  | cons x ps r _ ih =>
    cases j with
    | zero => simp [take, depth]
    | succ j => have := ih j; simp only [take, depth]; omega
theorem top_len (f : Te) : f.top.length = f.len := by
  induction f with
  | nil => rfl
  | cons x ps r _ ih => simp [top, len, ih]
theorem pre_len (f : Te) : f.pre.length = f.size := by
  induction f with
  | nil => rfl
  | cons x ps r ih1 ih2 => simp [pre, size, ih1, ih2]; omega
theorem top_app (f g : Te) : (f.app g).top = f.top ++ g.top := by
  induction f with
  | nil => rfl
  | cons x ps r _ ih => simp [top, app, ih]
theorem pre_app (f g : Te) : (f.app g).pre = f.pre ++ g.pre := by
  induction f with
  | nil => rfl
  | cons x ps r _ ih => simp [pre, app, ih]
/-- What is left when the first one gave way to its parts. -/
theorem pre_next (x : Nd) (ps r : Te) : (cons x ps r).pre = (x, ps) :: (ps.app r).pre := by simp [pre, pre_app]
theorem pre_take_step (f : Te) (j : Nat) (hj : j < f.len) : (f.take (j + 1)).pre = (f.take j).pre ++ ((f.at_ j) :: (f.at_ j).2.pre) := by
  rw [take_step f j hj, pre_app]
  simp [pre]
theorem at_pre (f : Te) (j : Nat) (hj : j < f.len) : f.at_ j ∈ f.pre := by
  induction f generalizing j with
  | nil => simp [len] at hj
  | cons x ps r _ ih =>
    cases j with
    | zero => simp [at_, pre]
    | succ j => simp only [at_, pre, List.mem_cons, List.mem_append]; exact .inr (.inr (ih j (by simp [len] at hj; omega)))
theorem top_at (f : Te) (j : Nat) (hj : j < f.len) : f.top.take (j + 1) = f.top.take j ++ [f.at_ j] := by
  induction f generalizing j with
  | nil => simp [len] at hj
  | cons x ps r _ ih =>
    cases j with
    | zero => simp [top, at_]
    | succ j => simp only [top, at_, List.take_succ_cons, List.cons_append]; rw [ih j (by simp [len] at hj; omega)]
/-- The last one. -/
theorem last (F : Te) (q : Nat) (h : F.len = q + 1) : ∃ (F' : Te) (x : Nd) (ps : Te), F = F'.app (.cons x ps .nil) ∧ F'.len = q := by
  induction F generalizing q with
  | nil => simp [len] at h
  | cons x ps r _ ih =>
    cases r with
    | nil => exact ⟨.nil, x, ps, rfl, by simp [len] at h ⊢; omega⟩
    | cons x' ps' r' =>
      cases q with
      | zero => simp [len] at h
      | succ q =>
        obtain ⟨F', c, d, h1, h2⟩ := ih q (by simp [len] at h ⊢; omega)
        exact ⟨.cons x ps F', c, d, by rw [h1]; rfl, by simp [len, h2]⟩
end Te
end Go.Proofs.Ytglmhdlkhnlkiaa
/- Terms in memory: cells that read as a list of terms; a slice that does. Nothing here speaks of the program. -/
namespace Go.Proofs.Ytglmhdlkhnlkiaa
open Go.RowKit

/-- A term's nine cells, as they are. -/
def ndC (x : Nd) : List Value := [.int .i64 x.k, .string x.s, .int .i64 x.n, .int .i64 x.tk, .int .i64 x.tn, slv x.tu, slv x.u, .int .i64 x.a, .int .i64 x.b]
/-- A term as a value. -/
def teVal (x : Nd) : Value := .agg #[.int .i64 x.k, .string x.s, .int .i64 x.n, .int .i64 x.tk, .int .i64 x.tn, slv x.tu, slv x.u, .int .i64 x.a, .int .i64 x.b]
/-- A term's cells at a place. -/
def NdAt (w : World) (b off : Nat) (x : Nd) : Prop :=
  w.cell? ⟨b, off, none⟩ = some (.int .i64 x.k) ∧ w.cell? ⟨b, off + 1, none⟩ = some (.string x.s) ∧ w.cell? ⟨b, off + 2, none⟩ = some (.int .i64 x.n) ∧ w.cell? ⟨b, off + 3, none⟩ = some (.int .i64 x.tk) ∧ w.cell? ⟨b, off + 4, none⟩ = some (.int .i64 x.tn) ∧ w.cell? ⟨b, off + 5, none⟩ = some (slv x.tu) ∧ w.cell? ⟨b, off + 6, none⟩ = some (slv x.u) ∧ w.cell? ⟨b, off + 7, none⟩ = some (.int .i64 x.a) ∧ w.cell? ⟨b, off + 8, none⟩ = some (.int .i64 x.b)
theorem NdAt.to {w w' : World} {b off : Nat} {x : Nd} (h : NdAt w b off x) (hk : ∀ i, i < 9 → w'.cell? ⟨b, off + i, none⟩ = w.cell? ⟨b, off + i, none⟩) : NdAt w' b off x :=
  ⟨(hk 0 (by omega)).trans h.1, (hk 1 (by omega)).trans h.2.1, (hk 2 (by omega)).trans h.2.2.1, (hk 3 (by omega)).trans h.2.2.2.1, (hk 4 (by omega)).trans h.2.2.2.2.1, (hk 5 (by omega)).trans h.2.2.2.2.2.1, (hk 6 (by omega)).trans h.2.2.2.2.2.2.1, (hk 7 (by omega)).trans h.2.2.2.2.2.2.2.1, (hk 8 (by omega)).trans h.2.2.2.2.2.2.2.2⟩
theorem NdAt.below {w w' : World} {B b off : Nat} {x : Nd} (h : NdAt w b off x) (hb : Below B w w') (hlt : b < B) : NdAt w' b off x := h.to fun i _ => hb.cell (p := ⟨b, off + i, none⟩) hlt
theorem NdAt.of_cells {w : World} {b off : Nat} {x : Nd} (h : ∀ j u, (ndC x)[j]? = some u → w.cell? ⟨b, off + j, none⟩ = some u) : NdAt w b off x :=
  ⟨h 0 _ rfl, h 1 _ rfl, h 2 _ rfl, h 3 _ rfl, h 4 _ rfl, h 5 _ rfl, h 6 _ rfl, h 7 _ rfl, h 8 _ rfl⟩
theorem NdAt.cells {w : World} {b off : Nat} {x : Nd} (h : NdAt w b off x) : ∀ j u, (ndC x)[j]? = some u → w.cell? ⟨b, off + j, none⟩ = some u := by
  intro j u hu
  obtain ⟨h0, h1, h2, h3, h4, h5, h6, h7, h8⟩ := h
  match j, hu with
  | 0, hu => simp [ndC] at hu; subst hu; exact h0
  | 1, hu => simp [ndC] at hu; subst hu; exact h1
  | 2, hu => simp [ndC] at hu; subst hu; exact h2
  | 3, hu => simp [ndC] at hu; subst hu; exact h3
  | 4, hu => simp [ndC] at hu; subst hu; exact h4
  | 5, hu => simp [ndC] at hu; subst hu; exact h5
  | 6, hu => simp [ndC] at hu; subst hu; exact h6
  | 7, hu => simp [ndC] at hu; subst hu; exact h7
  | 8, hu => simp [ndC] at hu; subst hu; exact h8
  | _ + 9, hu => simp [ndC] at hu
/-- A slice value, as a list of terms lies: nothing, or cells at an address, all below block B. -/
def TeV (B : Nat) (w : World) : Te → Value → Prop
  | .nil, v => ∃ A c, v = .slice A 0 c
  | .cons x ps r, v => ∃ b off cap, v = .slice (some ⟨b, off, none⟩) (r.len + 1) cap ∧ r.len + 1 ≤ cap ∧ cap ≤ maxLen ∧ b < B ∧
      TeC B w (.cons x ps r) b off
where
  /-- The cells from an address on. -/
  TeC (B : Nat) (w : World) : Te → Nat → Nat → Prop
  | .nil, _, _ => True
  | .cons x ps r, b, off => NdAt w b off x ∧ TyV B w x.ty (slv x.tu) ∧ TeV B w ps (slv x.u) ∧ TeC B w r b (off + 9)
abbrev TeC := @TeV.TeC
theorem teV_nil {B : Nat} {w : World} {v : Value} : TeV B w .nil v ↔ ∃ A c, v = .slice A 0 c := by rw [TeV]
theorem teV_cons {B : Nat} {w : World} {x : Nd} {ps r : Te} {v : Value} : TeV B w (.cons x ps r) v ↔ ∃ b off cap, v = .slice (some ⟨b, off, none⟩) (r.len + 1) cap ∧ r.len + 1 ≤ cap ∧ cap ≤ maxLen ∧ b < B ∧
      TeC B w (.cons x ps r) b off := by rw [TeV]
theorem teC_cons {B : Nat} {w : World} {x : Nd} {ps r : Te} {b off : Nat} : TeC B w (.cons x ps r) b off ↔ NdAt w b off x ∧ TyV B w x.ty (slv x.tu) ∧ TeV B w ps (slv x.u) ∧ TeC B w r b (off + 9) := by unfold TeC; rw [TeV.TeC]
theorem teC_nil {B : Nat} {w : World} {b off : Nat} : TeC B w .nil b off := by unfold TeC; rw [TeV.TeC]; trivial
theorem TeV.slice {B : Nat} {w : World} {f : Te} {v : Value} (h : TeV B w f v) : ∃ A c, v = .slice A f.len c := by
  cases f with
  | nil => exact teV_nil.1 h
  | cons x ps r =>
    obtain ⟨b, off, cap, rfl, _⟩ := teV_cons.1 h
    exact ⟨_, _, rfl⟩
theorem TeV.form {B : Nat} {w : World} {f : Te} {v : Value} (h : TeV B w f v) (hn : 0 < f.len) : ∃ b off cap, v = .slice (some ⟨b, off, none⟩) f.len cap ∧ f.len ≤ cap ∧ cap ≤ maxLen ∧ b < B ∧ TeC B w f b off := by
  cases f with
  | nil => simp [Te.len] at hn
  | cons x ps r => exact teV_cons.1 h
/-- A term's type and parts stand. -/
def TmL (B : Nat) (w : World) (t : Tm) : Prop := TyV B w t.1.ty (slv t.1.tu) ∧ TeV B w t.2 (slv t.1.u)
theorem teC_at {B : Nat} {w : World} {f : Te} {b off : Nat} (h : TeC B w f b off) (j : Nat) (hj : j < f.len) :
    NdAt w b (off + j * 9) (f.at_ j).1 ∧ TmL B w (f.at_ j) := by
  induction f generalizing off j with
  | nil => simp [Te.len] at hj
  | cons x ps r _ ih =>
    obtain ⟨h1, h2, h3, h4⟩ := teC_cons.1 h
    cases j with
    | zero => exact ⟨by simpa [Te.at_] using h1, by simpa [Te.at_, TmL] using ⟨h2, h3⟩⟩
    | succ j =>
      have := ih h4 j (by simp [Te.len] at hj; omega)
      rw [show off + (j + 1) * 9 = off + 9 + j * 9 by omega]
      exact this
theorem te_keep {B B' : Nat} {w w' : World} (hB : B ≤ B') (hk : ∀ b off, b < B → w'.cell? ⟨b, off, none⟩ = w.cell? ⟨b, off, none⟩) (f : Te) :
    (∀ v, TeV B w f v → TeV B' w' f v) ∧ (∀ b off, b < B → TeC B w f b off → TeC B' w' f b off) := by
  induction f with
  | nil => exact ⟨fun v h => teV_nil.2 (teV_nil.1 h), fun _ _ _ _ => teC_nil⟩
  | cons x ps r ih1 ih2 =>
    have hc : ∀ b off, b < B → TeC B w (.cons x ps r) b off → TeC B' w' (.cons x ps r) b off := by
      intro b off hb h
      obtain ⟨h1, h2, h3, h4⟩ := teC_cons.1 h
      exact teC_cons.2 ⟨h1.to fun i _ => hk _ _ hb, h2.keep hB hk, ih1.1 (slv x.u) h3, ih2.2 _ _ hb h4⟩
    refine ⟨fun v h => ?_, hc⟩
    obtain ⟨b, off, cap, hv, h1, h2, h3, h4⟩ := teV_cons.1 h
    exact teV_cons.2 ⟨b, off, cap, hv, h1, h2, by omega, hc b off h3 h4⟩
theorem TeV.keep {B B' : Nat} {w w' : World} {f : Te} {v : Value} (h : TeV B w f v) (hB : B ≤ B') (hk : ∀ b off, b < B → w'.cell? ⟨b, off, none⟩ = w.cell? ⟨b, off, none⟩) : TeV B' w' f v := (te_keep hB hk f).1 v h
theorem TeV.below {B : Nat} {w w' : World} {f : Te} {v : Value} (h : TeV B w f v) (hb : Below B w w') : TeV B w' f v := h.keep (Nat.le_refl _) fun b off hlt => hb.cell (p := ⟨b, off, none⟩) hlt
theorem TeV.up {B B' : Nat} {w w' : World} {f : Te} {v : Value} (h : TeV B w f v) (hb : Below B w w') (hB : B ≤ B') : TeV B' w' f v := h.keep hB fun b off hlt => hb.cell (p := ⟨b, off, none⟩) hlt
theorem TyV.up {B B' : Nat} {w w' : World} {f : Fo} {v : Value} (h : TyV B w f v) (hb : Below B w w') (hB : B ≤ B') : TyV B' w' f v := h.keep hB fun b off hlt => hb.cell (p := ⟨b, off, none⟩) hlt
theorem TmL.up {B B' : Nat} {w w' : World} {t : Tm} (h : TmL B w t) (hb : Below B w w') (hB : B ≤ B') : TmL B' w' t := ⟨h.1.up hb hB, h.2.up hb hB⟩
theorem TmL.below {B : Nat} {w w' : World} {t : Tm} (h : TmL B w t) (hb : Below B w w') : TmL B w' t := h.up hb (Nat.le_refl _)
theorem TmL.keep {B B' : Nat} {w w' : World} {t : Tm} (h : TmL B w t) (hB : B ≤ B') (hk : ∀ b off, b < B → w'.cell? ⟨b, off, none⟩ = w.cell? ⟨b, off, none⟩) : TmL B' w' t := ⟨h.1.keep hB hk, h.2.keep hB hk⟩
/-- Each term's type and parts lie at its slices. -/
def TeL (B : Nat) (w : World) : Te → Prop
  | .nil => True
  | .cons x ps r => TmL B w (x, ps) ∧ TeL B w r
theorem TeL.app {B : Nat} {w : World} {f g : Te} (h : TeL B w f) (k : TeL B w g) : TeL B w (f.app g) := by
  induction f with
  | nil => exact k
  | cons _ _ r _ ih => exact ⟨h.1, ih h.2⟩
theorem TeL.unapp {B : Nat} {w : World} {f g : Te} (h : TeL B w (f.app g)) : TeL B w f ∧ TeL B w g := by
  induction f with
  | nil => exact ⟨trivial, h⟩
  | cons _ _ r _ ih => exact ⟨⟨h.1, (ih h.2).1⟩, (ih h.2).2⟩
theorem TeL.up {B B' : Nat} {w w' : World} {f : Te} (h : TeL B w f) (hb : Below B w w') (hB : B ≤ B') : TeL B' w' f := by
  induction f with
  | nil => trivial
  | cons _ _ r _ ih => exact ⟨h.1.up hb hB, ih h.2⟩
theorem TeL.below {B : Nat} {w w' : World} {f : Te} (h : TeL B w f) (hb : Below B w w') : TeL B w' f := h.up hb (Nat.le_refl _)
theorem TeC.list {B : Nat} {w : World} {f : Te} {b off : Nat} (h : TeC B w f b off) : TeL B w f := by
  induction f generalizing off with
  | nil => trivial
  | cons _ _ r _ ih => obtain ⟨_, h2, h3, h4⟩ := teC_cons.1 h; exact ⟨⟨h2, h3⟩, ih h4⟩
theorem TeV.list {B : Nat} {w : World} {f : Te} {v : Value} (h : TeV B w f v) : TeL B w f := by
  cases f with
  | nil => trivial
  | cons x ps r => obtain ⟨b, off, cap, _, _, _, _, hc⟩ := teV_cons.1 h; exact TeC.list hc
/-- So do those of all its terms. -/
theorem TeL.pre {B : Nat} {w : World} {f : Te} (h : TeL B w f) : ∀ t ∈ f.pre, TmL B w t := by
  induction f with
  | nil => intro t ht; cases ht
  | cons x ps r ih1 ih2 =>
    intro t ht
    simp only [Te.pre, List.mem_cons, List.mem_append] at ht
    rcases ht with rfl | ht | ht
    · exact h.1
    · exact ih1 h.1.2.list t ht
    · exact ih2 h.2 t ht
end Go.Proofs.Ytglmhdlkhnlkiaa
