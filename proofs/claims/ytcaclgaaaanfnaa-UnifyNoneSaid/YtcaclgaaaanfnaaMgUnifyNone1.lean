/- Texts of one proof, one behind the other. -/
import Derived.WalkKit
import Derived.WalkSpells
import Derived.WalkLawsBesides
import Derived.Lib.Hide
import Derived.Test.YtcaclgaaaanfnaaProg
import Derived.ProofKit
import Derived.OpenShut
import Derived.Deep.Slices
/- Plain facts on types: a list of types as a first-order thing; size, depth, variables. Nothing here speaks of the program. -/
namespace Go.Proofs.Ytcaclgaaaanfnaa

/-- A slice: its address, its length, its capacity. -/
abbrev Sl := Option Addr × Nat × Nat
def slv (s : Sl) : Value := .slice s.1 s.2.1 s.2.2
/-- A list of types: each has a kind, a number, and a list of parts, which lies at a value. -/
inductive Fo where
  | nil : Fo
  | cons (k n : Int) (v : Sl) (ps rest : Fo) : Fo
namespace Fo
def len : Fo → Nat
  | nil => 0
  | cons _ _ _ _ r => r.len + 1
/-- All types in a list, with their parts. -/
def size : Fo → Nat
  | nil => 0
  | cons _ _ _ ps r => 1 + ps.size + r.size
/-- The depth of the deepest one. -/
def depth : Fo → Nat
  | nil => 0
  | cons _ _ _ ps r => max (1 + ps.depth) r.depth
def app : Fo → Fo → Fo
  | nil, g => g
  | cons k n v ps r, g => cons k n v ps (r.app g)
def drop : Nat → Fo → Fo
  | 0, f => f
  | _ + 1, nil => nil
  | j + 1, cons _ _ _ _ r => r.drop j
def take : Nat → Fo → Fo
  | 0, _ => nil
  | _ + 1, nil => nil
  | j + 1, cons k n v ps r => cons k n v ps (r.take j)
/-- The one at a place: its kind, its number, its parts. -/
def at_ : Nat → Fo → Int × Int × Sl × Fo
  | _, nil => (0, 0, (none, 0, 0), nil)
  | 0, cons k n v ps _ => (k, n, v, ps)
  | j + 1, cons _ _ _ _ r => r.at_ j
theorem size_app (f g : Fo) : (f.app g).size = f.size + g.size := by
  induction f with
  | nil => simp [app, size]
  | cons k n v ps r _ ih => simp [app, size, ih]; omega
theorem len_app (f g : Fo) : (f.app g).len = f.len + g.len := by
  induction f with
  | nil => simp [app, len]
  | cons k n v ps r _ ih => simp [app, len, ih]; omega
theorem app_nil (f : Fo) : f.app nil = f := by
  induction f with
  | nil => rfl
  | cons k n v ps r _ ih => simp [app, ih]
theorem app_assoc (f g h : Fo) : (f.app g).app h = f.app (g.app h) := by
  induction f with
  | nil => rfl
  | cons k n v ps r _ ih => simp [app, ih]
theorem len_le_size (f : Fo) : f.len ≤ f.size := by
  induction f with
  | nil => simp [len]
  | cons k n v ps r _ ih => simp [len, size]; omega
theorem drop_step (f : Fo) (j : Nat) (hj : j < f.len) : f.drop j = cons (f.at_ j).1 (f.at_ j).2.1 (f.at_ j).2.2.1 (f.at_ j).2.2.2 (f.drop (j + 1)) := by
  induction f generalizing j with
  | nil => simp [len] at hj
  | cons k n v ps r _ ih =>
    cases j with
    | zero => simp [drop, at_]
    | succ j => simp only [drop, at_]; exact ih j (by simp [len] at hj; omega)
theorem drop_len (f : Fo) : f.drop f.len = nil := by
  induction f with
  | nil => rfl
  | cons k n v ps r _ ih => simpa [len, drop] using ih
theorem drop_zero (f : Fo) : f.drop 0 = f := by cases f <;> rfl
theorem take_zero (f : Fo) : f.take 0 = nil := by cases f <;> rfl
theorem take_len (f : Fo) : f.take f.len = f := by
  induction f with
  | nil => rfl
  | cons k n v ps r _ ih => simp [len, take, ih]
theorem take_step (f : Fo) (j : Nat) (hj : j < f.len) : f.take (j + 1) = (f.take j).app (cons (f.at_ j).1 (f.at_ j).2.1 (f.at_ j).2.2.1 (f.at_ j).2.2.2 nil) := by
  induction f generalizing j with
  | nil => simp [len] at hj
  | cons k n v ps r _ ih =>
    cases j with
    | zero => simp [take, at_, app]
    | succ j => simp only [take, at_, app]; rw [ih j (by simp [len] at hj; omega)]
theorem at_size (f : Fo) (j : Nat) (hj : j < f.len) : (f.at_ j).2.2.2.size < f.size := by
  induction f generalizing j with
  | nil => simp [len] at hj
  | cons k n v ps r _ ih =>
    cases j with
    | zero => simp [at_, size]; omega
    | succ j => have := ih j (by simp [len] at hj; omega); simp [at_, size]; omega
theorem size_drop_step (f : Fo) (j : Nat) (hj : j < f.len) : (f.drop j).size = 1 + (f.at_ j).2.2.2.size + (f.drop (j + 1)).size := by
  rw [drop_step f j hj, size]
theorem size_take_step (f : Fo) (j : Nat) (hj : j < f.len) : (f.take (j + 1)).size = (f.take j).size + (1 + (f.at_ j).2.2.2.size) := by
  rw [take_step f j hj, size_app]
  simp [size]
theorem at_depth (f : Fo) (j : Nat) (hj : j < f.len) : (f.at_ j).2.2.2.depth + 1 ≤ f.depth := by
  induction f generalizing j with
  | nil => simp [len] at hj
  | cons k n v ps r _ ih =>
    cases j with
    | zero => simp [at_, depth]; omega
    | succ j => have := ih j (by simp [len] at hj; omega); simp [at_, depth]; omega
theorem size_take_le (f : Fo) (j : Nat) : (f.take j).size ≤ f.size := by
  induction f generalizing j with
  | nil => cases j <;> simp [take]
  | cons k n v ps r _ ih =>
    cases j with
    | zero => simp [take, size]
    | succ j => have := ih j; simp [take, size]; omega
end Fo
end Go.Proofs.Ytcaclgaaaanfnaa
/- Types in memory: cells that read as a list of types; a slice that does. Nothing here speaks of the program. -/
namespace Go.Proofs.Ytcaclgaaaanfnaa
open Go.RowKit

/-- A slice value, as a list of types lies: nothing, or cells at an address, all below block B. -/
def TyV (B : Nat) (w : World) : Fo → Value → Prop
  | .nil, v => ∃ A c, v = .slice A 0 c
  | .cons k n u ps r, v => ∃ b off cap, v = .slice (some ⟨b, off, none⟩) (r.len + 1) cap ∧ r.len + 1 ≤ cap ∧ cap ≤ maxLen ∧ b < B ∧
      TyC B w (.cons k n u ps r) b off
where
  /-- The cells from an address on. -/
  TyC (B : Nat) (w : World) : Fo → Nat → Nat → Prop
  | .nil, _, _ => True
  | .cons k n u ps r, b, off => w.cell? ⟨b, off, none⟩ = some (.int .i64 k) ∧ w.cell? ⟨b, off + 1, none⟩ = some (.int .i64 n) ∧
      w.cell? ⟨b, off + 2, none⟩ = some (slv u) ∧ TyV B w ps (slv u) ∧ TyC B w r b (off + 3)
abbrev TyC := @TyV.TyC
theorem tyV_nil {B : Nat} {w : World} {v : Value} : TyV B w .nil v ↔ ∃ A c, v = .slice A 0 c := by rw [TyV]
theorem tyV_cons {B : Nat} {w : World} {k n : Int} {u : Sl} {ps r : Fo} {v : Value} : TyV B w (.cons k n u ps r) v ↔ ∃ b off cap, v = .slice (some ⟨b, off, none⟩) (r.len + 1) cap ∧ r.len + 1 ≤ cap ∧ cap ≤ maxLen ∧ b < B ∧
      TyC B w (.cons k n u ps r) b off := by rw [TyV]
theorem tyC_cons {B : Nat} {w : World} {k n : Int} {u : Sl} {ps r : Fo} {b off : Nat} : TyC B w (.cons k n u ps r) b off ↔ w.cell? ⟨b, off, none⟩ = some (.int .i64 k) ∧ w.cell? ⟨b, off + 1, none⟩ = some (.int .i64 n) ∧
      w.cell? ⟨b, off + 2, none⟩ = some (slv u) ∧ TyV B w ps (slv u) ∧ TyC B w r b (off + 3) := by unfold TyC; rw [TyV.TyC]
theorem tyC_nil {B : Nat} {w : World} {b off : Nat} : TyC B w .nil b off := by unfold TyC; rw [TyV.TyC]; trivial
theorem TyV.slice {B : Nat} {w : World} {f : Fo} {v : Value} (h : TyV B w f v) : ∃ A c, v = .slice A f.len c := by
  cases f with
  | nil => exact tyV_nil.1 h
  | cons k n u ps r =>
    obtain ⟨b, off, cap, rfl, _⟩ := tyV_cons.1 h
    exact ⟨_, _, rfl⟩
theorem TyV.form {B : Nat} {w : World} {f : Fo} {v : Value} (h : TyV B w f v) (hn : 0 < f.len) : ∃ b off cap, v = .slice (some ⟨b, off, none⟩) f.len cap ∧ f.len ≤ cap ∧ cap ≤ maxLen ∧ b < B ∧ TyC B w f b off := by
  cases f with
  | nil => simp [Fo.len] at hn
  | cons k n u ps r => exact tyV_cons.1 h
theorem tyC_at {B : Nat} {w : World} {f : Fo} {b off : Nat} (h : TyC B w f b off) (j : Nat) (hj : j < f.len) :
    w.cell? ⟨b, off + j * 3, none⟩ = some (.int .i64 (f.at_ j).1) ∧ w.cell? ⟨b, off + j * 3 + 1, none⟩ = some (.int .i64 (f.at_ j).2.1) ∧
      w.cell? ⟨b, off + j * 3 + 2, none⟩ = some (slv (f.at_ j).2.2.1) ∧ TyV B w (f.at_ j).2.2.2 (slv (f.at_ j).2.2.1) := by
  induction f generalizing off j with
  | nil => simp [Fo.len] at hj
  | cons k n u ps r _ ih =>
    obtain ⟨h1, h2, h3, h3', h4⟩ := tyC_cons.1 h
    cases j with
    | zero => simpa [Fo.at_] using ⟨h1, h2, h3, h3'⟩
    | succ j =>
      have := ih h4 j (by simp [Fo.len] at hj; omega)
      rw [show off + (j + 1) * 3 = off + 3 + j * 3 by omega]
      exact this
theorem ty_keep {B B' : Nat} {w w' : World} (hB : B ≤ B') (hk : ∀ b off, b < B → w'.cell? ⟨b, off, none⟩ = w.cell? ⟨b, off, none⟩) (f : Fo) :
    (∀ v, TyV B w f v → TyV B' w' f v) ∧ (∀ b off, b < B → TyC B w f b off → TyC B' w' f b off) := by
  induction f with
  | nil => exact ⟨fun v h => tyV_nil.2 (tyV_nil.1 h), fun _ _ _ _ => tyC_nil⟩
  | cons k n u ps r ih1 ih2 =>
    have hc : ∀ b off, b < B → TyC B w (.cons k n u ps r) b off → TyC B' w' (.cons k n u ps r) b off := by
      intro b off hb h
      obtain ⟨h1, h2, h3, h4, h5⟩ := tyC_cons.1 h
      exact tyC_cons.2 ⟨(hk _ _ hb).trans h1, (hk _ _ hb).trans h2, (hk _ _ hb).trans h3, ih1.1 (slv u) h4, ih2.2 _ _ hb h5⟩
    refine ⟨fun v h => ?_, hc⟩
    obtain ⟨b, off, cap, hv, h1, h2, h3, h4⟩ := tyV_cons.1 h
    exact tyV_cons.2 ⟨b, off, cap, hv, h1, h2, by omega, hc b off h3 h4⟩
theorem TyV.keep {B B' : Nat} {w w' : World} {f : Fo} {v : Value} (h : TyV B w f v) (hB : B ≤ B') (hk : ∀ b off, b < B → w'.cell? ⟨b, off, none⟩ = w.cell? ⟨b, off, none⟩) : TyV B' w' f v := (ty_keep hB hk f).1 v h
theorem TyV.below {B : Nat} {w w' : World} {f : Fo} {v : Value} (h : TyV B w f v) (hb : Below B w w') : TyV B w' f v := h.keep (Nat.le_refl _) fun b off hlt => hb.cell (p := ⟨b, off, none⟩) hlt
/-- A type as a value: its kind, its number, its parts. -/
def tyVal (k n : Int) (v : Value) : Value := .agg #[.int .i64 k, .int .i64 n, v]
end Go.Proofs.Ytcaclgaaaanfnaa
/- An argument that is a slice of types, opened. -/
namespace Go.Proofs.Ytcaclgaaaanfnaa
open Go.RowKit Go.ChangeShapes Go.WideShapes Go.ChangeAt Go.Deep

namespace Fo
/-- Each number is one that an int may be. -/
def wf : Fo → Prop
  | nil => True
  | cons _ n _ ps r => (Lit.int .i64 n).wf = true ∧ ps.wf ∧ r.wf
theorem wf_app {f g : Fo} (h : f.wf) (k : g.wf) : (f.app g).wf := by
  induction f with
  | nil => exact k
  | cons _ _ _ _ r _ ih => exact ⟨h.1, h.2.1, ih h.2.2⟩
end Fo
theorem listOf {α : Type} (P : Nat → α → Prop) (n : Nat) (h : ∀ i, i < n → ∃ t, P i t) : ∃ ts : List α, ts.length = n ∧ ∀ i (hi : i < ts.length), P i ts[i] := by
  induction n with
  | zero => exact ⟨[], rfl, by simp⟩
  | succ n ih =>
    obtain ⟨ts, hl, hP⟩ := ih (fun i hi => h i (by omega))
    obtain ⟨t, ht⟩ := h n (by omega)
    refine ⟨ts ++ [t], by simp [hl], fun i hi => ?_⟩
    rcases Nat.lt_or_ge i ts.length with hlt | hge
    · rw [List.getElem_append_left hlt]; exact hP i hlt
    · have : i = ts.length := by simp at hi; omega
      subst this
      have e : (ts ++ [t])[ts.length] = t := by simp
      rw [e, hl]
      exact ht
def foOf : List (Int × Int × Sl × Fo) → Fo
  | [] => .nil
  | t :: r => .cons t.1 t.2.1 t.2.2.1 t.2.2.2 (foOf r)
theorem foOf_len (ts : List (Int × Int × Sl × Fo)) : (foOf ts).len = ts.length := by
  induction ts with
  | nil => rfl
  | cons t r ih => simp [foOf, Fo.len, ih]
theorem foOf_wf (ts : List (Int × Int × Sl × Fo)) (h : ∀ i (hi : i < ts.length), (Lit.int .i64 ts[i].2.1).wf = true ∧ ts[i].2.2.2.wf) : (foOf ts).wf := by
  induction ts with
  | nil => trivial
  | cons t r ih =>
    have h0 := h 0 (by simp)
    exact ⟨h0.1, h0.2, ih fun i hi => by have := h (i + 1) (by simp; omega); simpa using this⟩
theorem foOf_cells {B : Nat} {w : World} {b : Nat} (ts : List (Int × Int × Sl × Fo)) (off : Nat)
    (h : ∀ i (hi : i < ts.length), w.cell? ⟨b, off + i * 3, none⟩ = some (.int .i64 ts[i].1) ∧ w.cell? ⟨b, off + i * 3 + 1, none⟩ = some (.int .i64 ts[i].2.1) ∧ w.cell? ⟨b, off + i * 3 + 2, none⟩ = some (slv ts[i].2.2.1) ∧ TyV B w ts[i].2.2.2 (slv ts[i].2.2.1)) : TyC B w (foOf ts) b off := by
  induction ts generalizing off with
  | nil => exact tyC_nil
  | cons t r ih =>
    have h0 := h 0 (by simp)
    simp only [Nat.zero_mul, Nat.add_zero, List.getElem_cons_zero] at h0
    refine tyC_cons.2 ⟨h0.1, h0.2.1, h0.2.2.1, h0.2.2.2, ih (off + 3) fun i hi => ?_⟩
    have h1 := h (i + 1) (by simp; omega)
    simp only [List.getElem_cons_succ] at h1
    rw [show off + 3 + i * 3 = off + (i + 1) * 3 by omega]
    exact h1
set_option maxRecDepth 100000 in
theorem types_read {H : Type} {enc : TypeId × Value → H} {W : World} (fuel : Nat) : ∀ (v : Value) (x : DataW H × List MemPlace), DataW.trod enc Try.prog W 0 (fun _ => true) true fuel 34 [v] = some x → ∃ (F : Fo) (u : Sl), v = slv u ∧ TyV W.heap.size W F v ∧ F.wf := by
  induction fuel using Nat.strongRecOn with
  | ind fuel ih =>
    intro v x h
    rcases DataW.trod_slice Try.underlying34 h with ⟨hcs, _⟩ | ⟨a, len, cap, elems, rest, n, hfu, hcs, _, _, hl, hm, hlen, hel, _, _⟩
    · simp at hcs
      subst hcs
      exact ⟨.nil, (none, 0, 0), rfl, tyV_nil.2 ⟨none, 0, rfl⟩, trivial⟩
    · simp at hcs
      subst hcs
      have hC : Try.prog.cellsOf 36 = 3 := by kernel_rfl
      have hI : Try.prog.cellsOf 3 = 1 := by kernel_rfl
      have hS : Try.prog.cellsOf 34 = 1 := by kernel_rfl
      rw [hC] at hel
      have key : ∀ i, i < len → ∃ t : Int × Int × Sl × Fo, W.cell? (a.add (i * 3)) = some (.int .i64 t.1) ∧ W.cell? ((a.add (i * 3)).add 1) = some (.int .i64 t.2.1) ∧ W.cell? ((a.add (i * 3)).add 2) = some (slv t.2.2.1) ∧ TyV W.heap.size W t.2.2.2 (slv t.2.2.1) ∧ (Lit.int .i64 t.2.1).wf = true ∧ t.2.2.2.wf := by
        intro i hil
        have he := hel i hil
        rw [List.getElem?_eq_getElem (by omega)] at he
        obtain ⟨cs', hc, ht'⟩ := Option.bind_eq_some_iff.1 he
        obtain ⟨ys, n', hn', _, hlen2, hyl, hfld⟩ := DataW.trod_struct Try.underlying36 ht'
        rw [hC] at hlen2
        obtain ⟨_, hcl, hat⟩ := World.cells?_some hc
        have q0 : DataW.trod enc Try.prog W 0 (fun _ => true) true n' 3 ((cs'.drop 0).take (Try.prog.cellsOf 3)) = ys[0]? := hfld 0 _ rfl
        have q1 : DataW.trod enc Try.prog W 0 (fun _ => true) true n' 3 ((cs'.drop 1).take (Try.prog.cellsOf 3)) = ys[1]? := hfld 1 _ rfl
        have q2 : DataW.trod enc Try.prog W 0 (fun _ => true) true n' 34 ((cs'.drop 2).take (Try.prog.cellsOf 34)) = ys[2]? := hfld 2 _ rfl
        have hyl' : ys.length = 3 := hyl
        rw [hI, List.getElem?_eq_getElem (by omega)] at q0
        rw [hI, List.getElem?_eq_getElem (by omega)] at q1
        rw [hS, List.getElem?_eq_getElem (by omega)] at q2
        obtain ⟨k0, hk0, _, _⟩ := DataW.trod_int Try.underlying3 q0
        obtain ⟨k1, hk1, _, hw1⟩ := DataW.trod_int Try.underlying3 q1
        match cs', hlen2 with
        | [c0, c1, c2], _ =>
          obtain ⟨F, u, hu, hF, hFw⟩ := ih n' (by omega) c2 _ q2
          simp at hk0 hk1
          subst hk0; subst hk1; subst hu
          refine ⟨(k0, k1, u, F), ?_, ?_, ?_, hF, hw1, hFw⟩
          · have := hat 0 (by omega)
            simpa [Addr.add] using this
          · exact hat 1 (by omega)
          · exact hat 2 (by omega)
      by_cases h0 : len = 0
      · subst h0
        exact ⟨.nil, (some a, 0, cap), rfl, tyV_nil.2 ⟨_, _, rfl⟩, trivial⟩
      · obtain ⟨b, off, spot⟩ := a
        obtain ⟨t0, hc0, _⟩ := key 0 (by omega)
        have hspot : spot = none := by simpa [Addr.add] using World.cell?_spot hc0
        subst hspot
        have hb : b < W.heap.size := by simpa [Addr.add] using World.block_lt_of_cell? _ _ hc0
        obtain ⟨ts, htl, hP⟩ := listOf _ len key
        have hTC : TyC W.heap.size W (foOf ts) b off := foOf_cells ts off fun i hi => by
          have hP2 := hP i hi
          simp only [Addr.add_lit] at hP2
          exact ⟨hP2.1, hP2.2.1, hP2.2.2.1, hP2.2.2.2.1⟩
        have hWF : (foOf ts).wf := foOf_wf ts fun i hi => (hP i hi).2.2.2.2
        cases ts with
        | nil => simp at htl; omega
        | cons t r =>
          refine ⟨foOf (t :: r), (some ⟨b, off, none⟩, len, cap), rfl, tyV_cons.2 ⟨b, off, cap, ?_, ?_, hm, hb, hTC⟩, hWF⟩
          · rw [foOf_len, ← htl]; rfl
          · rw [foOf_len]; simp at htl; omega
theorem ArgTy_open {H : Type} {enc : TypeId × Value → H} {W : World} {v : Value} {d : DataW H} {p : List MemPlace}
    (h : DataW.Trod enc Try.prog W 0 (fun _ => true) true 34 v d p) (hc : v.cells = #[v]) : ∃ F, TyV W.heap.size W F v := by
  obtain ⟨fuel, hf⟩ := h
  rw [hc] at hf
  obtain ⟨F, _, _, hF, _⟩ := types_read fuel v _ hf
  exact ⟨F, hF⟩
end Go.Proofs.Ytcaclgaaaanfnaa
/- An argument that is a type, opened. -/
namespace Go.Proofs.Ytcaclgaaaanfnaa
open Go.RowKit Go.ChangeShapes Go.WideShapes Go.ChangeAt Go.Deep

set_option maxRecDepth 100000 in
theorem ArgT1_open {H : Type} {enc : TypeId × Value → H} {W : World} {v : Value} {d : DataW H} {p : List MemPlace} {r : Reach} {base : Nat}
    (hv : Value.okWide Try.prog W r base 36 v) (h : DataW.Trod enc Try.prog W 0 (fun _ => true) true 36 v d p) : ∃ (k n : Int) (F : Fo) (u : Sl), v = tyVal k n (slv u) ∧ TyV W.heap.size W F (slv u) ∧ (Lit.int .i64 n).wf = true ∧ F.wf := by
  obtain ⟨cs, rfl, hsz⟩ := okWide_struct Try.underlying36 hv
  have hC : Try.prog.cellsOf 36 = 3 := by kernel_rfl
  rw [hC] at hsz
  obtain ⟨fuel, hf⟩ := h
  obtain ⟨ys, n', hn', _, hlen2, hyl, hfld⟩ := DataW.trod_struct Try.underlying36 hf
  have hI : Try.prog.cellsOf 3 = 1 := by kernel_rfl
  have hS : Try.prog.cellsOf 34 = 1 := by kernel_rfl
  have hyl' : ys.length = 3 := hyl
  match cs, hsz with
  | ⟨[c0, c1, c2]⟩, _ =>
    have q0 : DataW.trod enc Try.prog W 0 (fun _ => true) true n' 3 (([c0, c1, c2].drop 0).take (Try.prog.cellsOf 3)) = ys[0]? := hfld 0 _ rfl
    have q1 : DataW.trod enc Try.prog W 0 (fun _ => true) true n' 3 (([c0, c1, c2].drop 1).take (Try.prog.cellsOf 3)) = ys[1]? := hfld 1 _ rfl
    have q2 : DataW.trod enc Try.prog W 0 (fun _ => true) true n' 34 (([c0, c1, c2].drop 2).take (Try.prog.cellsOf 34)) = ys[2]? := hfld 2 _ rfl
    rw [hI, List.getElem?_eq_getElem (by omega)] at q0
    rw [hI, List.getElem?_eq_getElem (by omega)] at q1
    rw [hS, List.getElem?_eq_getElem (by omega)] at q2
    obtain ⟨k0, hk0, _, _⟩ := DataW.trod_int Try.underlying3 q0
    obtain ⟨k1, hk1, _, hw1⟩ := DataW.trod_int Try.underlying3 q1
    obtain ⟨F, u, hu, hF, hFw⟩ := types_read n' c2 _ q2
    simp at hk0 hk1
    subst hk0; subst hk1; subst hu
    exact ⟨k0, k1, F, u, rfl, hF, hw1, hFw⟩
end Go.Proofs.Ytcaclgaaaanfnaa
