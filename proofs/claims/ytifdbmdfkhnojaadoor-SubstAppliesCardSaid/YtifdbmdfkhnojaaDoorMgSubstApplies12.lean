/- Texts of one proof, one behind the other. -/
import Derived.Test.YtifdbmdfkhnojaaDoorMgSubstApplies11
import Derived.Test.YtifdbmdfkhnojaaDoorMgSubstApplies4
import Derived.Test.YtifdbmdfkhnojaaDoorMgSubstApplies7
import Derived.Test.YtifdbmdfkhnojaaDoorMgSubstApplies5
import Derived.Test.YtifdbmdfkhnojaaDoorMgSubstApplies1
import Derived.Test.YtifdbmdfkhnojaaDoorProg
import Derived.ProofKit
import Derived.OpenShut
import Derived.Deep.Slices
/- The chapter's example: what is asked of it besides. -/
namespace Go.Proofs.YtifdbmdfkhnojaaDoor
open Go.RowKit Go.Shelf

theorem Img.txts {f g : Fo} (h : Img idn f g) : g.txts = f.txts := by
  induction f generalizing g with
  | nil => cases g <;> simp_all [Img, Fo.txts]
  | cons k n u ps r ih1 ih2 =>
    cases g with
    | nil => simp [Img] at h
    | cons k' n' u' ps' r' =>
      simp only [Img, nm_id] at h
      obtain ⟨rfl, rfl, h3, h4⟩ := h
      simp only [Fo.txts, ih1 h3, ih2 h4]
theorem Img.ok {f g : Fo} (h : Img idn f g) : g.ok = f.ok := by
  induction f generalizing g with
  | nil => cases g <;> simp_all [Img, Fo.ok]
  | cons k n u ps r ih1 ih2 =>
    cases g with
    | nil => simp [Img] at h
    | cons k' n' u' ps' r' =>
      have hl := (show ps'.len = ps.len from Img.len (num := idn) (by simp only [Img] at h; exact h.2.2.1))
      simp only [Img, nm_id] at h
      obtain ⟨rfl, rfl, h3, h4⟩ := h
      simp only [Fo.ok, ih1 h3, ih2 h4, hl]
theorem Img.trans {f g h : Fo} (a : Img idn f g) (b : Img idn g h) : Img idn f h := by
  induction f generalizing g h with
  | nil =>
    cases g with
    | nil => exact b
    | cons => simp [Img] at a
  | cons k n u ps r ih1 ih2 =>
    cases g with
    | nil => simp [Img] at a
    | cons k' n' u' ps' r' =>
      cases h with
      | nil => simp [Img] at b
      | cons k2 n2 u2 ps2 r2 =>
        simp only [Img, nm_id] at a b ⊢
        exact ⟨b.1.trans a.1, b.2.1.trans a.2.1, ih1 a.2.2.1 b.2.2.1, ih2 a.2.2.2 b.2.2.2⟩
theorem Img.same {f g : Fo} (h : Img idn f g) : f.same g = true := by
  induction f generalizing g with
  | nil => cases g <;> simp_all [Img, Fo.same]
  | cons k n u ps r ih1 ih2 =>
    cases g with
    | nil => simp [Img] at h
    | cons k' n' u' ps' r' =>
      simp only [Img, nm_id] at h
      obtain ⟨rfl, rfl, h3, h4⟩ := h
      simp [Fo.same, ih1 h3, ih2 h4]
/-- Two types at an address. -/
theorem two_cells {X : World} (g cp : Nat) (k0 n0 k1 n1 : Int) (u0 u1 : Sl) (f0 f1 : Fo) (hg : g < X.heap.size) (hcp : 2 ≤ cp) (hcm : cp ≤ maxLen) (c0 : X.cell? ⟨g, 0, none⟩ = some (.int .i64 k0)) (c1 : X.cell? ⟨g, 1, none⟩ = some (.int .i64 n0)) (c2 : X.cell? ⟨g, 2, none⟩ = some (slv u0)) (c3 : X.cell? ⟨g, 3, none⟩ = some (.int .i64 k1)) (c4 : X.cell? ⟨g, 4, none⟩ = some (.int .i64 n1)) (c5 : X.cell? ⟨g, 5, none⟩ = some (slv u1)) (h0 : TyV X.heap.size X f0 (slv u0)) (h1 : TyV X.heap.size X f1 (slv u1)) : TyV X.heap.size X (.cons k0 n0 u0 f0 (.cons k1 n1 u1 f1 .nil)) (.slice (some ⟨g, 0, none⟩) 2 cp) :=
  tyV_cons.2 ⟨g, 0, cp, rfl, hcp, hcm, hg, tyC_cons.2 ⟨c0, c1, c2, h0, tyC_cons.2 ⟨c3, c4, c5, h1, tyC_nil⟩⟩⟩
theorem no_parts (B : Nat) (w : World) : TyV B w .nil (slv (none, 0, 0)) := tyV_nil.2 ⟨none, 0, rfl⟩
set_option maxRecDepth 100000 in
theorem var_any (n : Int) (w : World) : Calls Tryd.prog 32 #[.int .i64 n] w fun e w' => e = .returned (tyVal 1 n (.slice none 0 0)) ∧ Below w.heap.size w w' := by
  obtain ⟨w1, hw1⟩ : ∃ w1, w.alloc (.cells rt0 25) = w1 := ⟨_, rfl⟩
  have hb1 : Below w.heap.size w w1 := by rw [← hw1]; exact (Below.refl _ _).alloc (Nat.le_refl _) _
  have hx1 : w1.heap[w.heap.size]? = some (Obj.cells rt0 25) := by rw [← hw1]; exact heap_alloc_new w _
  obtain ⟨r0, r1, r2, z0, z1, z2, w2, hw2, hld, hsz, hfar, hbl⟩ := ret_cells (w := w1) w.heap.size 1 n (none, 0, 0) hx1
  have HLD := Lib.hid hld
  have HB := Lib.hid (hb1.trans hbl)
  unfold rt0 at hw1
  clear hld hfar hbl hb1 hx1
  dsimp only [slv] at hw2
  go_enter Tryd.func32, Tryd.ntmps32
  go_wp2
  refine bodyPost_ret (results_box rfl _ _ _ _ rfl HLD.out) rfl ?_
  exact ⟨rfl, HB.out⟩
end Go.Proofs.YtifdbmdfkhnojaaDoor
/- Substitutions, plain: types without the places where their parts lie; what becomes of a type; binds that count. Nothing here speaks of the program. -/
namespace Go.Proofs.YtifdbmdfkhnojaaDoor
namespace Fo
/-- Without places. -/
def pure : Fo → Fo
  | nil => nil
  | cons k n _ ps r => cons k n (none, 0, 0) ps.pure r.pure
theorem pure_pure (f : Fo) : f.pure.pure = f.pure := by
  induction f with
  | nil => rfl
  | cons k n v ps r i1 i2 => simp [pure, i1, i2]
theorem pure_size (f : Fo) : f.pure.size = f.size := by
  induction f with
  | nil => rfl
  | cons k n v ps r i1 i2 => simp [pure, size, i1, i2]
theorem pure_len (f : Fo) : f.pure.len = f.len := by
  induction f with
  | nil => rfl
  | cons k n v ps r i1 i2 => simp [pure, len, i2]
theorem pure_depth (f : Fo) : f.pure.depth = f.depth := by
  induction f with
  | nil => rfl
  | cons k n v ps r i1 i2 => simp [pure, depth, i1, i2]
theorem pure_app (f g : Fo) : (f.app g).pure = f.pure.app g.pure := by
  induction f with
  | nil => rfl
  | cons k n v ps r i1 i2 => simp [pure, app, i2]
theorem same_iff (f g : Fo) : f.same g = true ↔ f.pure = g.pure := by
  induction f generalizing g with
  | nil => cases g <;> simp [same, pure]
  | cons k n v ps r i1 i2 => cases g with
    | nil => simp [same, pure]
    | cons k' n' v' ps' r' => simp [same, pure, i1, i2, and_assoc]
end Fo
theorem img_iff (f g : Fo) : Img idn f g ↔ g.pure = f.pure := by
  induction f generalizing g with
  | nil => cases g <;> simp [Img, Fo.pure]
  | cons k n v ps r i1 i2 => cases g with
    | nil => simp [Img, Fo.pure]
    | cons k' n' v' ps' r' => simp [Img, Fo.pure, i1, i2, nm_id]
/-- What variables become. -/
abbrev Sg := Int → Option (Int × Int × Fo)
namespace Fo
/-- What types become. -/
def sub (s : Sg) : Fo → Fo
  | nil => nil
  | cons k n _ ps r => match (if k = 1 then s n else none) with
    | some x => cons x.1 x.2.1 (none, 0, 0) x.2.2.pure (r.sub s)
    | none => cons k n (none, 0, 0) (ps.sub s) (r.sub s)
theorem sub_has {s : Sg} {k n : Int} {u : Sl} {ps r : Fo} {x : Int × Int × Fo} (hk : k = 1) (h : s n = some x) : (cons k n u ps r).sub s = cons x.1 x.2.1 (none, 0, 0) x.2.2.pure (r.sub s) := by simp [sub, hk, h]
theorem sub_not {s : Sg} {k n : Int} {u : Sl} {ps r : Fo} (h : k = 1 → s n = none) : (cons k n u ps r).sub s = cons k n (none, 0, 0) (ps.sub s) (r.sub s) := by
  by_cases hk : k = 1
  · simp [sub, hk, h hk]
  · simp [sub, hk]
theorem cases_sub (s : Sg) (k n : Int) : (k = 1 ∧ ∃ x, s n = some x) ∨ (k = 1 → s n = none) := by
  by_cases hk : k = 1
  · cases h : s n with
    | none => exact .inr fun _ => rfl
    | some x => exact .inl ⟨hk, x, rfl⟩
  · exact .inr fun h => absurd h hk
theorem sub_len (s : Sg) (f : Fo) : (f.sub s).len = f.len := by
  induction f with
  | nil => rfl
  | cons k n v ps r i1 i2 =>
    rcases cases_sub s k n with ⟨hk, x, hx⟩ | h
    · rw [sub_has hk hx]; simp [len, i2]
    · rw [sub_not h]; simp [len, i2]
theorem sub_pure (s : Sg) (f : Fo) : (f.sub s).pure = f.sub s := by
  induction f with
  | nil => rfl
  | cons k n v ps r i1 i2 =>
    rcases cases_sub s k n with ⟨hk, x, hx⟩ | h
    · rw [sub_has hk hx]; simp [pure, i2, pure_pure]
    · rw [sub_not h]; simp [pure, i1, i2]
theorem pure_sub (s : Sg) (f : Fo) : f.pure.sub s = f.sub s := by
  induction f with
  | nil => rfl
  | cons k n v ps r i1 i2 =>
    rcases cases_sub s k n with ⟨hk, x, hx⟩ | h
    · rw [pure, sub_has hk hx, sub_has hk hx, i2]
    · rw [pure, sub_not h, sub_not h, i1, i2]
theorem sub_app (s : Sg) (f g : Fo) : (f.app g).sub s = (f.sub s).app (g.sub s) := by
  induction f with
  | nil => rfl
  | cons k n v ps r i1 i2 =>
    rcases cases_sub s k n with ⟨hk, x, hx⟩ | h
    · rw [app, sub_has hk hx, sub_has hk hx, app, i2]
    · rw [app, sub_not h, sub_not h, app, i2]
theorem sub_ext {s t : Sg} (h : ∀ n, s n = t n) (f : Fo) : f.sub s = f.sub t := by rw [show s = t from funext h]
/-- What one type becomes. -/
def sub1 (s : Sg) (k n : Int) (ps : Fo) : Int × Int × Fo :=
  match (if k = 1 then s n else none) with
  | some x => (x.1, x.2.1, x.2.2.pure)
  | none => (k, n, ps.sub s)
theorem sub_cons (s : Sg) (k n : Int) (u : Sl) (ps r : Fo) : (cons k n u ps r).sub s = cons (sub1 s k n ps).1 (sub1 s k n ps).2.1 (none, 0, 0) (sub1 s k n ps).2.2 (r.sub s) := by
  rcases cases_sub s k n with ⟨hk, x, hx⟩ | h
  · rw [sub_has hk hx]; simp [sub1, hk, hx]
  · rw [sub_not h]
    by_cases hk : k = 1
    · simp [sub1, hk, h hk]
    · simp [sub1, hk]
theorem sub1_has {s : Sg} {k n : Int} {ps : Fo} {x : Int × Int × Fo} (hk : k = 1) (h : s n = some x) : sub1 s k n ps = (x.1, x.2.1, x.2.2.pure) := by simp [sub1, hk, h]
theorem sub1_not {s : Sg} {k n : Int} {ps : Fo} (h : k = 1 → s n = none) : sub1 s k n ps = (k, n, ps.sub s) := by
  by_cases hk : k = 1
  · simp [sub1, hk, h hk]
  · simp [sub1, hk]
theorem sub1_pure (s : Sg) (k n : Int) (ps : Fo) : sub1 s k n ps.pure = sub1 s k n ps := by
  rcases cases_sub s k n with ⟨hk, x, hx⟩ | h
  · rw [sub1_has hk hx, sub1_has hk hx]
  · rw [sub1_not h, sub1_not h, pure_sub]
/-- All that is in the binds is no greater than S: what comes of a type is no greater than that many times it. -/
theorem sub_size (s : Sg) (S : Nat) (hS : 1 ≤ S) (h : ∀ n x, s n = some x → 1 + x.2.2.size ≤ S) (f : Fo) : (f.sub s).size ≤ S * f.size := by
  induction f with
  | nil => simp [sub, size]
  | cons k n v ps r i1 i2 =>
    rcases cases_sub s k n with ⟨hk, x, hx⟩ | h1
    · rw [sub_has hk hx]
      have := h n x hx
      simp only [size, pure_size]
      have e : S * (1 + ps.size + r.size) = S + S * ps.size + S * r.size := by rw [Nat.mul_add, Nat.mul_add, Nat.mul_one]
      rw [e]
      omega
    · rw [sub_not h1]
      simp only [size]
      have e : S * (1 + ps.size + r.size) = S + S * ps.size + S * r.size := by rw [Nat.mul_add, Nat.mul_add, Nat.mul_one]
      rw [e]
      omega
/-- One behind the other. -/
theorem sub_sub (a b t : Sg) (h : ∀ n, t n = match a n with | some x => some (sub1 b x.1 x.2.1 x.2.2) | none => b n) (f : Fo) : f.sub t = (f.sub a).sub b := by
  induction f with
  | nil => rfl
  | cons k n v ps r i1 i2 =>
    rcases cases_sub a k n with ⟨hk, x, hx⟩ | h1
    · have ht : t n = some (sub1 b x.1 x.2.1 x.2.2) := by rw [h, hx]
      rw [sub_has hk ht, sub_has hk hx, sub_cons, i2, sub1_pure]
      have : (sub1 b x.1 x.2.1 x.2.2).2.2.pure = (sub1 b x.1 x.2.1 x.2.2).2.2 := by
        rcases cases_sub b x.1 x.2.1 with ⟨hk2, y, hy⟩ | h2
        · rw [sub1_has hk2 hy]; exact pure_pure _
        · rw [sub1_not h2]; exact sub_pure _ _
      rw [this]
    · rw [sub_not h1]
      rcases cases_sub b k n with ⟨hk, x, hx⟩ | h2
      · have ht : t n = some x := by rw [h, h1 hk]; exact hx
        rw [sub_has hk ht, sub_has hk hx, i2]
      · have ht : k = 1 → t n = none := fun hk => by rw [h, h1 hk]; exact h2 hk
        rw [sub_not ht, sub_not h2, i1, i2]
/-- Does no variable of these stand there? -/
def free (s : Sg) : Fo → Bool
  | nil => true
  | cons k n _ ps r => (decide (k ≠ 1) || (s n).isNone) && ps.free s && r.free s
theorem sub_free (s : Sg) (f : Fo) (h : f.free s = true) : f.sub s = f.pure := by
  induction f with
  | nil => rfl
  | cons k n v ps r i1 i2 =>
    simp only [free, Bool.and_eq_true, Bool.or_eq_true, decide_eq_true_eq, Option.isNone_iff_eq_none] at h
    have h1 : k = 1 → s n = none := fun hk => h.1.1.resolve_left (fun h => h hk)
    rw [sub_not h1, i1 h.1.2, i2 h.2, pure]
end Fo
/-- A bind: its variable, and its type: kind, number, slice, parts. -/
abbrev Bnd := Int × Int × Int × Sl × Fo
/-- The first bind of a variable. -/
def fnd : List Bnd → Int → Option Bnd
  | [], _ => none
  | b :: l, v => if b.1 = v then some b else fnd l v
def sgB (b : Bnd) : Int × Int × Fo := (b.2.1, b.2.2.1, b.2.2.2.2.pure)
def sg (l : List Bnd) : Sg := fun v => (fnd l v).map sgB
/-- Those that count. -/
def cnt : List Bnd → List Bnd
  | [] => []
  | b :: l => b :: (cnt l).filter (fun x => decide (x.1 ≠ b.1))
theorem fnd_var {l : List Bnd} {v : Int} {b : Bnd} (h : fnd l v = some b) : b.1 = v := by
  induction l with
  | nil => cases h
  | cons c l ih =>
    simp only [fnd] at h
    split at h
    · cases h; assumption
    · exact ih h
theorem fnd_mem {l : List Bnd} {v : Int} {b : Bnd} (h : fnd l v = some b) : b ∈ l := by
  induction l with
  | nil => cases h
  | cons c l ih =>
    simp only [fnd] at h
    split at h
    · cases h; simp
    · simp [ih h]
theorem fnd_app (a b : List Bnd) (v : Int) : fnd (a ++ b) v = (fnd a v).or (fnd b v) := by
  induction a with
  | nil => rfl
  | cons c l ih => simp only [List.cons_append, fnd]; split <;> simp [ih]
theorem fnd_none {l : List Bnd} {v : Int} : fnd l v = none ↔ ∀ b ∈ l, b.1 ≠ v := by
  induction l with
  | nil => simp [fnd]
  | cons c l ih => simp only [fnd]; split <;> simp_all
theorem fnd_filter (l : List Bnd) (p : Bnd → Bool) (q : Int → Bool) (hp : ∀ b, p b = q b.1) (v : Int) : fnd (l.filter p) v = if q v then fnd l v else none := by
  induction l with
  | nil => simp [fnd]
  | cons c l ih =>
    by_cases hc : p c = true
    · rw [List.filter_cons_of_pos hc]
      simp only [fnd]
      by_cases e : c.1 = v
      · subst e; simp [hp c ▸ hc]
      · simp [e, ih]
    · rw [List.filter_cons_of_neg hc, ih]
      by_cases e : c.1 = v
      · subst e; rw [hp] at hc; simp [hc]
      · simp [fnd, e]
theorem fnd_cnt (l : List Bnd) (v : Int) : fnd (cnt l) v = fnd l v := by
  induction l with
  | nil => rfl
  | cons c l ih =>
    simp only [cnt, fnd]
    split
    · rfl
    · rename_i h
      rw [fnd_filter (cnt l) _ (fun y => decide (y ≠ c.1)) (fun _ => rfl), ih]
      simp [Ne.symm h]
theorem cnt_snoc (l : List Bnd) (b : Bnd) : cnt (l ++ [b]) = if (fnd l b.1).isSome then cnt l else cnt l ++ [b] := by
  induction l with
  | nil => simp [cnt, fnd]
  | cons c l ih =>
    simp only [List.cons_append, cnt, ih, fnd]
    by_cases e : c.1 = b.1
    · simp only [e, if_true, Option.isSome_some]
      split
      · rfl
      · simp
    · simp only [e, if_false]
      split
      · rfl
      · simp [Ne.symm e]
theorem cnt_sub {l : List Bnd} {b : Bnd} (h : b ∈ cnt l) : b ∈ l := by
  induction l with
  | nil => cases h
  | cons c l ih =>
    simp only [cnt, List.mem_cons, List.mem_filter] at h
    rcases h with rfl | ⟨h, _⟩
    · simp
    · simp [ih h]
theorem cnt_mem {l : List Bnd} {b : Bnd} : b ∈ cnt l ↔ fnd l b.1 = some b := by
  induction l with
  | nil => simp [cnt, fnd]
  | cons c l ih =>
    simp only [cnt, List.mem_cons, List.mem_filter, decide_eq_true_eq, fnd, ih]
    constructor
    · rintro (rfl | ⟨h, hne⟩)
      · simp
      · simp [Ne.symm hne, h]
    · intro h
      split at h
      · injection h with h; exact .inl h.symm
      · rename_i hne; exact .inr ⟨h, Ne.symm hne⟩
theorem cnt_len (l : List Bnd) : (cnt l).length ≤ l.length := by
  induction l with
  | nil => simp [cnt]
  | cons c l ih => simp only [cnt, List.length_cons]; have := List.length_filter_le (fun x : Bnd => decide (x.1 ≠ c.1)) (cnt l); omega
theorem cnt_nd (l : List Bnd) : (cnt l).Pairwise (fun x y => x.1 ≠ y.1) := by
  induction l with
  | nil => exact List.Pairwise.nil
  | cons d l ih =>
    refine List.Pairwise.cons (fun x hx => ?_) (ih.filter _)
    have := (List.mem_filter.1 hx).2
    simp only [decide_eq_true_eq] at this
    exact fun e => this e.symm
theorem strike_len (v : Int) (q : List Bnd) (hq : q.Pairwise (fun x y => x.1 ≠ y.1)) : (q.filter fun x => decide (x.1 ≠ v)).length + (if (fnd q v).isSome then 1 else 0) = q.length := by
  induction hq with
  | nil => simp [fnd]
  | @cons d q hd hq ih =>
    by_cases e : d.1 = v
    · rw [List.filter_cons_of_neg (by simp [e])]
      have : q.filter (fun x => decide (x.1 ≠ v)) = q := List.filter_eq_self.2 fun x hx => by simpa using fun h => hd x hx (e.trans h.symm)
      rw [this]; simp [fnd, e]
    · rw [List.filter_cons_of_pos (by simpa using e)]
      simp only [fnd, e, if_false, List.length_cons]
      omega
/-- So many there are as another one comes ahead. -/
theorem cnt_cons_len (b : Bnd) (l : List Bnd) : (cnt (b :: l)).length = if (fnd l b.1).isSome then (cnt l).length else (cnt l).length + 1 := by
  have := strike_len b.1 _ (cnt_nd l)
  rw [fnd_cnt] at this
  simp only [cnt, List.length_cons]
  split <;> simp_all <;> omega
end Go.Proofs.YtifdbmdfkhnojaaDoor
/- An argument that is a slice of types, opened. -/
namespace Go.Proofs.YtifdbmdfkhnojaaDoor
open Go.RowKit Go.ChangeShapes Go.WideShapes Go.ChangeAt Go.Deep

namespace Fo
/-- Each number is one that an int may be. -/
def wf : Fo → Prop
  | nil => True
  | cons _ n _ ps r => (Lit.int .i64 n).wf = true ∧ ps.wf ∧ r.wf
theorem wf_app {f g : Fo} (h : f.wf) (k : g.wf) : (f.app g).wf := by
  induction f with
  | nil => exact k
  | cons _ _ _ _ r _ ih => exact ⟨h.1, h.2.1, ih h.2.2⟩
end Fo
theorem listOf {α : Type} (P : Nat → α → Prop) (n : Nat) (h : ∀ i, i < n → ∃ t, P i t) : ∃ ts : List α, ts.length = n ∧ ∀ i (hi : i < ts.length), P i ts[i] := by
  induction n with
  | zero => exact ⟨[], rfl, by simp⟩
  | succ n ih =>
    obtain ⟨ts, hl, hP⟩ := ih (fun i hi => h i (by omega))
    obtain ⟨t, ht⟩ := h n (by omega)
    refine ⟨ts ++ [t], by simp [hl], fun i hi => ?_⟩
    rcases Nat.lt_or_ge i ts.length with hlt | hge
    · rw [List.getElem_append_left hlt]; exact hP i hlt
    · have : i = ts.length := by simp at hi; omega
      subst this
      have e : (ts ++ [t])[ts.length] = t := by simp
      rw [e, hl]
      exact ht
def foOf : List (Int × Int × Sl × Fo) → Fo
  | [] => .nil
  | t :: r => .cons t.1 t.2.1 t.2.2.1 t.2.2.2 (foOf r)
theorem foOf_len (ts : List (Int × Int × Sl × Fo)) : (foOf ts).len = ts.length := by
  induction ts with
  | nil => rfl
  | cons t r ih => simp [foOf, Fo.len, ih]
theorem foOf_wf (ts : List (Int × Int × Sl × Fo)) (h : ∀ i (hi : i < ts.length), (Lit.int .i64 ts[i].2.1).wf = true ∧ ts[i].2.2.2.wf) : (foOf ts).wf := by
  induction ts with
  | nil => trivial
  | cons t r ih =>
    have h0 := h 0 (by simp)
    exact ⟨h0.1, h0.2, ih fun i hi => by have := h (i + 1) (by simp; omega); simpa using this⟩
theorem foOf_cells {B : Nat} {w : World} {b : Nat} (ts : List (Int × Int × Sl × Fo)) (off : Nat)
    (h : ∀ i (hi : i < ts.length), w.cell? ⟨b, off + i * 3, none⟩ = some (.int .i64 ts[i].1) ∧ w.cell? ⟨b, off + i * 3 + 1, none⟩ = some (.int .i64 ts[i].2.1) ∧ w.cell? ⟨b, off + i * 3 + 2, none⟩ = some (slv ts[i].2.2.1) ∧ TyV B w ts[i].2.2.2 (slv ts[i].2.2.1)) : TyC B w (foOf ts) b off := by
  induction ts generalizing off with
  | nil => exact tyC_nil
  | cons t r ih =>
    have h0 := h 0 (by simp)
    simp only [Nat.zero_mul, Nat.add_zero, List.getElem_cons_zero] at h0
    refine tyC_cons.2 ⟨h0.1, h0.2.1, h0.2.2.1, h0.2.2.2, ih (off + 3) fun i hi => ?_⟩
    have h1 := h (i + 1) (by simp; omega)
    simp only [List.getElem_cons_succ] at h1
    rw [show off + 3 + i * 3 = off + (i + 1) * 3 by omega]
    exact h1
set_option maxRecDepth 100000 in
theorem types_read {H : Type} {enc : TypeId × Value → H} {W : World} (fuel : Nat) : ∀ (v : Value) (x : DataW H × List MemPlace), DataW.trod enc Tryd.prog W 0 (fun _ => true) true fuel 23 [v] = some x → ∃ (F : Fo) (u : Sl), v = slv u ∧ TyV W.heap.size W F v ∧ F.wf := by
  induction fuel using Nat.strongRecOn with
  | ind fuel ih =>
    intro v x h
    rcases DataW.trod_slice Tryd.underlying23 h with ⟨hcs, _⟩ | ⟨a, len, cap, elems, rest, n, hfu, hcs, _, _, hl, hm, hlen, hel, _, _⟩
    · simp at hcs
      subst hcs
      exact ⟨.nil, (none, 0, 0), rfl, tyV_nil.2 ⟨none, 0, rfl⟩, trivial⟩
    · simp at hcs
      subst hcs
      have hC : Tryd.prog.cellsOf 25 = 3 := by kernel_rfl
      have hI : Tryd.prog.cellsOf 3 = 1 := by kernel_rfl
      have hS : Tryd.prog.cellsOf 23 = 1 := by kernel_rfl
      rw [hC] at hel
      have key : ∀ i, i < len → ∃ t : Int × Int × Sl × Fo, W.cell? (a.add (i * 3)) = some (.int .i64 t.1) ∧ W.cell? ((a.add (i * 3)).add 1) = some (.int .i64 t.2.1) ∧ W.cell? ((a.add (i * 3)).add 2) = some (slv t.2.2.1) ∧ TyV W.heap.size W t.2.2.2 (slv t.2.2.1) ∧ (Lit.int .i64 t.2.1).wf = true ∧ t.2.2.2.wf := by
        intro i hil
        have he := hel i hil
        rw [List.getElem?_eq_getElem (by omega)] at he
        obtain ⟨cs', hc, ht'⟩ := Option.bind_eq_some_iff.1 he
        obtain ⟨ys, n', hn', _, hlen2, hyl, hfld⟩ := DataW.trod_struct Tryd.underlying25 ht'
        rw [hC] at hlen2
        obtain ⟨_, hcl, hat⟩ := World.cells?_some hc
        have q0 : DataW.trod enc Tryd.prog W 0 (fun _ => true) true n' 3 ((cs'.drop 0).take (Tryd.prog.cellsOf 3)) = ys[0]? := hfld 0 _ rfl
        have q1 : DataW.trod enc Tryd.prog W 0 (fun _ => true) true n' 3 ((cs'.drop 1).take (Tryd.prog.cellsOf 3)) = ys[1]? := hfld 1 _ rfl
        have q2 : DataW.trod enc Tryd.prog W 0 (fun _ => true) true n' 23 ((cs'.drop 2).take (Tryd.prog.cellsOf 23)) = ys[2]? := hfld 2 _ rfl
        have hyl' : ys.length = 3 := hyl
        rw [hI, List.getElem?_eq_getElem (by omega)] at q0
        rw [hI, List.getElem?_eq_getElem (by omega)] at q1
        rw [hS, List.getElem?_eq_getElem (by omega)] at q2
        obtain ⟨k0, hk0, _, _⟩ := DataW.trod_int Tryd.underlying3 q0
        obtain ⟨k1, hk1, _, hw1⟩ := DataW.trod_int Tryd.underlying3 q1
        match cs', hlen2 with
        | [c0, c1, c2], _ =>
          obtain ⟨F, u, hu, hF, hFw⟩ := ih n' (by omega) c2 _ q2
          simp at hk0 hk1
          subst hk0; subst hk1; subst hu
          refine ⟨(k0, k1, u, F), ?_, ?_, ?_, hF, hw1, hFw⟩
          · have := hat 0 (by omega)
            simpa [Addr.add] using this
          · exact hat 1 (by omega)
          · exact hat 2 (by omega)
      by_cases h0 : len = 0
      · subst h0
        exact ⟨.nil, (some a, 0, cap), rfl, tyV_nil.2 ⟨_, _, rfl⟩, trivial⟩
      · obtain ⟨b, off, spot⟩ := a
        obtain ⟨t0, hc0, _⟩ := key 0 (by omega)
        have hspot : spot = none := by simpa [Addr.add] using World.cell?_spot hc0
        subst hspot
        have hb : b < W.heap.size := by simpa [Addr.add] using World.block_lt_of_cell? _ _ hc0
        obtain ⟨ts, htl, hP⟩ := listOf _ len key
        have hTC : TyC W.heap.size W (foOf ts) b off := foOf_cells ts off fun i hi => by
          have hP2 := hP i hi
          simp only [Addr.add_lit] at hP2
          exact ⟨hP2.1, hP2.2.1, hP2.2.2.1, hP2.2.2.2.1⟩
        have hWF : (foOf ts).wf := foOf_wf ts fun i hi => (hP i hi).2.2.2.2
        cases ts with
        | nil => simp at htl; omega
        | cons t r =>
          refine ⟨foOf (t :: r), (some ⟨b, off, none⟩, len, cap), rfl, tyV_cons.2 ⟨b, off, cap, ?_, ?_, hm, hb, hTC⟩, hWF⟩
          · rw [foOf_len, ← htl]; rfl
          · rw [foOf_len]; simp at htl; omega
theorem ArgTy_open {H : Type} {enc : TypeId × Value → H} {W : World} {v : Value} {d : DataW H} {p : List MemPlace}
    (h : DataW.Trod enc Tryd.prog W 0 (fun _ => true) true 23 v d p) (hc : v.cells = #[v]) : ∃ F, TyV W.heap.size W F v := by
  obtain ⟨fuel, hf⟩ := h
  rw [hc] at hf
  obtain ⟨F, _, _, hF, _⟩ := types_read fuel v _ hf
  exact ⟨F, hF⟩
end Go.Proofs.YtifdbmdfkhnojaaDoor
/- An argument that is a type, opened. -/
namespace Go.Proofs.YtifdbmdfkhnojaaDoor
open Go.RowKit Go.ChangeShapes Go.WideShapes Go.ChangeAt Go.Deep

set_option maxRecDepth 100000 in
theorem ArgT1_open {H : Type} {enc : TypeId × Value → H} {W : World} {v : Value} {d : DataW H} {p : List MemPlace} {r : Reach} {base : Nat}
    (hv : Value.okWide Tryd.prog W r base 25 v) (h : DataW.Trod enc Tryd.prog W 0 (fun _ => true) true 25 v d p) : ∃ (k n : Int) (F : Fo) (u : Sl), v = tyVal k n (slv u) ∧ TyV W.heap.size W F (slv u) ∧ (Lit.int .i64 n).wf = true ∧ F.wf := by
  obtain ⟨cs, rfl, hsz⟩ := okWide_struct Tryd.underlying25 hv
  have hC : Tryd.prog.cellsOf 25 = 3 := by kernel_rfl
  rw [hC] at hsz
  obtain ⟨fuel, hf⟩ := h
  obtain ⟨ys, n', hn', _, hlen2, hyl, hfld⟩ := DataW.trod_struct Tryd.underlying25 hf
  have hI : Tryd.prog.cellsOf 3 = 1 := by kernel_rfl
  have hS : Tryd.prog.cellsOf 23 = 1 := by kernel_rfl
  have hyl' : ys.length = 3 := hyl
  match cs, hsz with
  | ⟨[c0, c1, c2]⟩, _ =>
    have q0 : DataW.trod enc Tryd.prog W 0 (fun _ => true) true n' 3 (([c0, c1, c2].drop 0).take (Tryd.prog.cellsOf 3)) = ys[0]? := hfld 0 _ rfl
    have q1 : DataW.trod enc Tryd.prog W 0 (fun _ => true) true n' 3 (([c0, c1, c2].drop 1).take (Tryd.prog.cellsOf 3)) = ys[1]? := hfld 1 _ rfl
    have q2 : DataW.trod enc Tryd.prog W 0 (fun _ => true) true n' 23 (([c0, c1, c2].drop 2).take (Tryd.prog.cellsOf 23)) = ys[2]? := hfld 2 _ rfl
    rw [hI, List.getElem?_eq_getElem (by omega)] at q0
    rw [hI, List.getElem?_eq_getElem (by omega)] at q1
    rw [hS, List.getElem?_eq_getElem (by omega)] at q2
    obtain ⟨k0, hk0, _, _⟩ := DataW.trod_int Tryd.underlying3 q0
    obtain ⟨k1, hk1, _, hw1⟩ := DataW.trod_int Tryd.underlying3 q1
    obtain ⟨F, u, hu, hF, hFw⟩ := types_read n' c2 _ q2
    simp at hk0 hk1
    subst hk0; subst hk1; subst hu
    exact ⟨k0, k1, F, u, rfl, hF, hw1, hFw⟩
end Go.Proofs.YtifdbmdfkhnojaaDoor
