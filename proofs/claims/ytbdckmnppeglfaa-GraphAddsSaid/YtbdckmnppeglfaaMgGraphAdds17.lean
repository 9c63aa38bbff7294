/- Texts of one proof, one behind the other. -/
import Derived.Test.YtbdckmnppeglfaaMgGraphAdds2
import Derived.Test.YtbdckmnppeglfaaProg
import Derived.ProofKit
import Derived.OpenShut
import Derived.Deep.Slices
import Derived.Test.YtbdckmnppeglfaaMgGraphAdds14
import Derived.Maps.Own
import Derived.Maps.Views
import Derived.Maps.OwnSet
import Derived.Test.YtbdckmnppeglfaaMgGraphAdds15
/- An argument that is a slice of types, opened. -/
namespace Go.Proofs.Ytbdckmnppeglfaa
open Go.RowKit Go.ChangeShapes Go.WideShapes Go.ChangeAt Go.Deep

namespace Fo
/-- Each number is one that an int may be. -/
def wf : Fo → Prop
  | nil => True
  | cons _ n _ ps r => (Lit.int .i64 n).wf = true ∧ ps.wf ∧ r.wf
theorem wf_app {f g : Fo} (h : f.wf) (k : g.wf) : (f.app g).wf := by
  induction f with
  | nil => exact k
  | cons _ _ _ _ r _ ih => exact ⟨h.1, h.2.1, ih h.2.2⟩
end Fo
theorem listOf {α : Type} (P : Nat → α → Prop) (n : Nat) (h : ∀ i, i < n → ∃ t, P i t) : ∃ ts : List α, ts.length = n ∧ ∀ i (hi : i < ts.length), P i ts[i] := by
  induction n with
  | zero => exact ⟨[], rfl, by simp⟩
  | succ n ih =>
    obtain ⟨ts, hl, hP⟩ := ih (fun i hi => h i (by omega))
    obtain ⟨t, ht⟩ := h n (by omega)
    refine ⟨ts ++ [t], by simp [hl], fun i hi => ?_⟩
    rcases Nat.lt_or_ge i ts.length with hlt | hge
    · rw [List.getElem_append_left hlt]; exact hP i hlt
    · have : i = ts.length := by simp at hi; omega
      subst this
      have e : (ts ++ [t])[ts.length] = t := by simp
      rw [e, hl]
      exact ht
def foOf : List (Int × Int × Sl × Fo) → Fo
  | [] => .nil
  | t :: r => .cons t.1 t.2.1 t.2.2.1 t.2.2.2 (foOf r)
theorem foOf_len (ts : List (Int × Int × Sl × Fo)) : (foOf ts).len = ts.length := by
  induction ts with
  | nil => rfl
  | cons t r ih => simp [foOf, Fo.len, ih]
theorem foOf_wf (ts : List (Int × Int × Sl × Fo)) (h : ∀ i (hi : i < ts.length), (Lit.int .i64 ts[i].2.1).wf = true ∧ ts[i].2.2.2.wf) : (foOf ts).wf := by
  induction ts with
  | nil => trivial
  | cons t r ih =>
    have h0 := h 0 (by simp)
    exact ⟨h0.1, h0.2, ih fun i hi => by have := h (i + 1) (by simp; omega); simpa using this⟩
theorem foOf_cells {B : Nat} {w : World} {b : Nat} (ts : List (Int × Int × Sl × Fo)) (off : Nat)
    (h : ∀ i (hi : i < ts.length), w.cell? ⟨b, off + i * 3, none⟩ = some (.int .i64 ts[i].1) ∧ w.cell? ⟨b, off + i * 3 + 1, none⟩ = some (.int .i64 ts[i].2.1) ∧ w.cell? ⟨b, off + i * 3 + 2, none⟩ = some (slv ts[i].2.2.1) ∧ TyV B w ts[i].2.2.2 (slv ts[i].2.2.1)) : TyC B w (foOf ts) b off := by
  induction ts generalizing off with
  | nil => exact tyC_nil
  | cons t r ih =>
    have h0 := h 0 (by simp)
    simp only [Nat.zero_mul, Nat.add_zero, List.getElem_cons_zero] at h0
    refine tyC_cons.2 ⟨h0.1, h0.2.1, h0.2.2.1, h0.2.2.2, ih (off + 3) fun i hi => ?_⟩
    have h1 := h (i + 1) (by simp; omega)
    simp only [List.getElem_cons_succ] at h1
    rw [show off + 3 + i * 3 = off + (i + 1) * 3 by omega]
    exact h1
set_option maxRecDepth 100000 in
theorem types_read {H : Type} {enc : TypeId × Value → H} {W : World} (fuel : Nat) : ∀ (v : Value) (x : DataW H × List MemPlace), DataW.trod enc Try.prog W 0 (fun _ => true) true fuel 22 [v] = some x → ∃ (F : Fo) (u : Sl), v = slv u ∧ TyV W.heap.size W F v ∧ F.wf := by
  induction fuel using Nat.strongRecOn with
  | ind fuel ih =>
    intro v x h
    rcases DataW.trod_slice Try.underlying22 h with ⟨hcs, _⟩ | ⟨a, len, cap, elems, rest, n, hfu, hcs, _, _, hl, hm, hlen, hel, _, _⟩
    · simp at hcs
      subst hcs
      exact ⟨.nil, (none, 0, 0), rfl, tyV_nil.2 ⟨none, 0, rfl⟩, trivial⟩
    · simp at hcs
      subst hcs
      have hC : Try.prog.cellsOf 38 = 3 := by kernel_rfl
      have hI : Try.prog.cellsOf 3 = 1 := by kernel_rfl
      have hS : Try.prog.cellsOf 22 = 1 := by kernel_rfl
      rw [hC] at hel
      have key : ∀ i, i < len → ∃ t : Int × Int × Sl × Fo, W.cell? (a.add (i * 3)) = some (.int .i64 t.1) ∧ W.cell? ((a.add (i * 3)).add 1) = some (.int .i64 t.2.1) ∧ W.cell? ((a.add (i * 3)).add 2) = some (slv t.2.2.1) ∧ TyV W.heap.size W t.2.2.2 (slv t.2.2.1) ∧ (Lit.int .i64 t.2.1).wf = true ∧ t.2.2.2.wf := by
        intro i hil
        have he := hel i hil
        rw [List.getElem?_eq_getElem (by omega)] at he
        obtain ⟨cs', hc, ht'⟩ := Option.bind_eq_some_iff.1 he
        obtain ⟨ys, n', hn', _, hlen2, hyl, hfld⟩ := DataW.trod_struct Try.underlying38 ht'
        rw [hC] at hlen2
        obtain ⟨_, hcl, hat⟩ := World.cells?_some hc
        have q0 : DataW.trod enc Try.prog W 0 (fun _ => true) true n' 3 ((cs'.drop 0).take (Try.prog.cellsOf 3)) = ys[0]? := hfld 0 _ rfl
        have q1 : DataW.trod enc Try.prog W 0 (fun _ => true) true n' 3 ((cs'.drop 1).take (Try.prog.cellsOf 3)) = ys[1]? := hfld 1 _ rfl
        have q2 : DataW.trod enc Try.prog W 0 (fun _ => true) true n' 22 ((cs'.drop 2).take (Try.prog.cellsOf 22)) = ys[2]? := hfld 2 _ rfl
        have hyl' : ys.length = 3 := hyl
        rw [hI, List.getElem?_eq_getElem (by omega)] at q0
        rw [hI, List.getElem?_eq_getElem (by omega)] at q1
        rw [hS, List.getElem?_eq_getElem (by omega)] at q2
        obtain ⟨k0, hk0, _, _⟩ := DataW.trod_int Try.underlying3 q0
        obtain ⟨k1, hk1, _, hw1⟩ := DataW.trod_int Try.underlying3 q1
        match cs', hlen2 with
        | [c0, c1, c2], _ =>
          obtain ⟨F, u, hu, hF, hFw⟩ := ih n' (by omega) c2 _ q2
          simp at hk0 hk1
          subst hk0; subst hk1; subst hu
          refine ⟨(k0, k1, u, F), ?_, ?_, ?_, hF, hw1, hFw⟩
          · have := hat 0 (by omega)
            simpa [Addr.add] using this
          · exact hat 1 (by omega)
          · exact hat 2 (by omega)
      by_cases h0 : len = 0
      · subst h0
        exact ⟨.nil, (some a, 0, cap), rfl, tyV_nil.2 ⟨_, _, rfl⟩, trivial⟩
      · obtain ⟨b, off, spot⟩ := a
        obtain ⟨t0, hc0, _⟩ := key 0 (by omega)
        have hspot : spot = none := by simpa [Addr.add] using World.cell?_spot hc0
        subst hspot
        have hb : b < W.heap.size := by simpa [Addr.add] using World.block_lt_of_cell? _ _ hc0
        obtain ⟨ts, htl, hP⟩ := listOf _ len key
        have hTC : TyC W.heap.size W (foOf ts) b off := foOf_cells ts off fun i hi => by
          have hP2 := hP i hi
          simp only [Addr.add_lit] at hP2
          exact ⟨hP2.1, hP2.2.1, hP2.2.2.1, hP2.2.2.2.1⟩
        have hWF : (foOf ts).wf := foOf_wf ts fun i hi => (hP i hi).2.2.2.2
        cases ts with
        | nil => simp at htl; omega
        | cons t r =>
          refine ⟨foOf (t :: r), (some ⟨b, off, none⟩, len, cap), rfl, tyV_cons.2 ⟨b, off, cap, ?_, ?_, hm, hb, hTC⟩, hWF⟩
          · rw [foOf_len, ← htl]; rfl
          · rw [foOf_len]; simp at htl; omega
theorem ArgTy_open {H : Type} {enc : TypeId × Value → H} {W : World} {v : Value} {d : DataW H} {p : List MemPlace}
    (h : DataW.Trod enc Try.prog W 0 (fun _ => true) true 22 v d p) (hc : v.cells = #[v]) : ∃ F, TyV W.heap.size W F v := by
  obtain ⟨fuel, hf⟩ := h
  rw [hc] at hf
  obtain ⟨F, _, _, hF, _⟩ := types_read fuel v _ hf
  exact ⟨F, hF⟩
end Go.Proofs.Ytbdckmnppeglfaa
/- Maps whose keys are numbers: what keys them. -/
namespace Go.Proofs.Ytbdckmnppeglfaa
open Go.RowKit Go.Shelf Go.Maps Go.WideShapes
theorem lawI : Keyed Try.prog 3 := int_keyed Try.underlying3
end Go.Proofs.Ytbdckmnppeglfaa
/- Maps from numbers that a call made, told as functions: whatever their elements are. -/
namespace Go.Proofs.Ytbdckmnppeglfaa
open Go.RowKit Go.Shelf Go.Maps Go.WideShapes Go.ChangeMaps Go.MapKept

/-- How an element reads: as it is. -/
def heldE (v : Value) : Option (DataW Value × List MemPlace) := some (.held v, [])
/-- A map's type: its keys are numbers, its elements have that zero. -/
structure MapTy (mt e : TypeId) (z : Value) : Prop where
  und : Try.prog.underlying mt = some (.map 3 e)
  zero : ∀ w, (zeroValue e).run Try.prog w = .ok z w
/-- One more. -/
def upd (f : Int → Option Value) (n : Int) (v : Value) : Int → Option Value := fun m => if m = n then some v else f m
/-- A map that has these, so many, laid by at most so many stores. -/
def MapF (f : Int → Option Value) (S L b : Nat) (W : World) : Prop :=
  ∃ (k : Nat) (D : DataW Value), W.ownsMap Try.prog 3 heldE b k D ∧ k ≤ L ∧ Tidy D ∧ Maps.size D = S ∧ ∀ n : Int, (Lit.int .i64 n).wf = true → has D (.int .i64 n) = (f n).isSome ∧ ∀ z, D.atKey (.int .i64 n) (.held z) = .held ((f n).getD z)
theorem MapF.made (w : World) : MapF (fun _ => none) 0 0 w.heap.size (w.alloc (.map #[] 0)) := ⟨0, .map [], World.ownsMap_made _ _ _ _, Nat.le_refl _, tidy_empty, rfl, fun _ _ => ⟨rfl, fun _ => rfl⟩⟩
theorem MapF.kept {f : Int → Option Value} {S L b : Nat} {W W' : World} {row : Option Nat} (h : MapF f S L b W) (hg : W.grownBy W' row) (hne : some b ≠ row) : MapF f S L b W' := by
  obtain ⟨k, D, h1, h2⟩ := h
  exact ⟨k, D, h1.kept hg hne, h2⟩
theorem MapF.block {f : Int → Option Value} {S L b : Nat} {W W' : World} (h : MapF f S L b W) (hb : W'.heap[b]? = W.heap[b]?) : MapF f S L b W' := by
  obtain ⟨k, D, ⟨es, ck, h1, h3⟩, h2⟩ := h
  exact ⟨k, D, ⟨es, ck, hb.trans h1, h3⟩, h2⟩
theorem MapF.lt {f : Int → Option Value} {S L b : Nat} {W : World} (h : MapF f S L b W) : b < W.heap.size := by obtain ⟨_, _, h1, _⟩ := h; exact h1.lt
theorem MapF.below {f : Int → Option Value} {S L b : Nat} {W W' : World} (h : MapF f S L b W) (hb : Below W.heap.size W W') : MapF f S L b W' := h.block (hb.block b h.lt)
theorem MapF.le {f : Int → Option Value} {S L L' b : Nat} {W : World} (h : MapF f S L b W) (hl : L ≤ L') : MapF f S L' b W := by
  obtain ⟨k, D, h1, h2, h3⟩ := h
  exact ⟨k, D, h1, Nat.le_trans h2 hl, h3⟩
theorem MapF.ext {f g : Int → Option Value} {S L b : Nat} {W : World} (h : MapF f S L b W) (he : ∀ n, (Lit.int .i64 n).wf = true → f n = g n) : MapF g S L b W := by
  obtain ⟨k, D, h1, h2, h3, h4, h5⟩ := h
  exact ⟨k, D, h1, h2, h3, h4, fun n hn => by rw [← he n hn]; exact h5 n hn⟩
theorem MapF.look {f : Int → Option Value} {S L b : Nat} {W : World} (h : MapF f S L b W) {mt e : TypeId} {z : Value} (M : MapTy mt e z) (n : Int) (hn : (Lit.int .i64 n).wf = true) : (Instr.lookup mt (.map (some b)) (.int .i64 n) false).run Try.prog W = .ok ((f n).getD z) W := by
  obtain ⟨k, D, h1, _, _, _, h3⟩ := h
  obtain ⟨v, ps, hrun, hv⟩ := h1.lookup lawI M.und (M.zero W) (zd := .held z) (zp := []) rfl (keyOf_int_mk Try.underlying3 hn)
  rw [(h3 n hn).2] at hv
  simp only [heldE, Option.some.injEq, Prod.mk.injEq, DataW.held.injEq] at hv
  rw [hrun, hv.1]
theorem MapF.look_ok {f : Int → Option Value} {S L b : Nat} {W : World} (h : MapF f S L b W) {mt e : TypeId} {z : Value} (M : MapTy mt e z) (n : Int) (hn : (Lit.int .i64 n).wf = true) : (Instr.lookup mt (.map (some b)) (.int .i64 n) true).run Try.prog W = .ok (.tuple #[(f n).getD z, .bool (f n).isSome]) W := by
  obtain ⟨k, D, h1, _, _, _, h3⟩ := h
  obtain ⟨v, ps, hrun, hv⟩ := h1.look_ok lawI M.und (M.zero W) (zd := .held z) (zp := []) rfl (keyOf_int_mk Try.underlying3 hn)
  rw [(h3 n hn).2] at hv
  simp only [heldE, Option.some.injEq, Prod.mk.injEq, DataW.held.injEq] at hv
  rw [hrun, hv.1, (h3 n hn).1]
theorem MapF.len {f : Int → Option Value} {S L b : Nat} {W : World} (h : MapF f S L b W) {mt e : TypeId} {z : Value} (M : MapTy mt e z) (ty : TypeId) : (Builtin.len_ #[mt] ty #[.map (some b)]).run Try.prog W = .ok (.int .i64 S) W := by
  obtain ⟨k, D, h1, _, _, h2, _⟩ := h
  have := h1.len M.und ty
  rwa [h2] at this
theorem MapF.put {f : Int → Option Value} {S L b : Nat} {W : World} (h : MapF f S L b W) {mt e : TypeId} {z : Value} (M : MapTy mt e z) (hl : L ≤ 1000000000) (n : Int) (hn : (Lit.int .i64 n).wf = true) (v : Value) :
    ∃ W', (Instr.mapUpdate mt (.map (some b)) (.int .i64 n) v).run Try.prog W = .ok () W' ∧ MapF (upd f n v) (if (f n).isSome then S else S + 1) (L + 1) b W' ∧ W.grownBy W' (some b) ∧ (∀ i, i ≠ b → W'.heap[i]? = W.heap[i]?) ∧ W'.heap.size = W.heap.size := by
  obtain ⟨k, D, h1, h2, ht, hs, h3⟩ := h
  obtain ⟨w', hrun, ho, hg⟩ := h1.store lawI M.und (by unfold maxLen; omega) (keyOf_int_mk Try.underlying3 hn) (val := v) (d := .held v) (ps := []) rfl
  refine ⟨w', hrun, ⟨k + 1, _, ho, by omega, ht.put (by trivial) _, ?_, fun m hm2 => ?_⟩, hg.grown, ?_, ?_⟩
  · rw [size_put ht, (h3 n hn).1, hs]
  · by_cases e : m = n
    · subst e
      exact ⟨by rw [has_put_same ht.isMap (by trivial)]; simp [upd], fun z => by rw [atKey_put_same ht.isMap (by trivial)]; simp [upd]⟩
    · have hne : (Lit.int .i64 m) ≠ .int .i64 n := by simpa using e
      exact ⟨by rw [has_put_other hne, (h3 m hm2).1]; simp [upd, e], fun z => by rw [atKey_put_other hne, (h3 m hm2).2]; simp [upd, e]⟩
  · obtain ⟨es, ck, es', ck', hb, rfl⟩ := hg
    exact fun i hi => heap_setBlock_other hb _ hi
  · obtain ⟨es, ck, es', ck', hb, rfl⟩ := hg
    simp [setBlock]
/-- Nothing is found in a map that isn't there. -/
theorem nil_look {mt e : TypeId} {z : Value} (M : MapTy mt e z) (W : World) (n : Int) (hn : (Lit.int .i64 n).wf = true) (c : Bool) : (Instr.lookup mt (.map none) (.int .i64 n) c).run Try.prog W = .ok (if c then .tuple #[z, .bool false] else z) W :=
  look_nil c lawI M.und (M.zero W) (keyOf_int_mk Try.underlying3 hn)
theorem zeroInt (w : World) : (zeroValue 3).run Try.prog w = .ok (.int .i64 0) w := by kernel_rfl
theorem intsTy : MapTy 84 3 (.int .i64 0) := ⟨Try.underlying84, zeroInt⟩
end Go.Proofs.Ytbdckmnppeglfaa
/- A graph's nodes, as a list; what a type's node is. -/
namespace Go.Proofs.Ytbdckmnppeglfaa
open Go.RowKit Go.Shelf Go.Maps Go.WideShapes
/-- A node: its kind, its name, its type's size, its parts. -/
abbrev Gn := Int × Int × Nat × List Nat
/-- A variable's node. -/
def gvar : List Gn → Int → Option Nat
  | [], _ => none
  | x :: G, n => if x.1 = 1 ∧ x.2.1 = n then some 0 else (gvar G n).map (· + 1)
theorem gvar_snoc (G : List Gn) (x : Gn) (n : Int) : gvar (G ++ [x]) n = match gvar G n with
    | some i => some i
    | none => if x.1 = 1 ∧ x.2.1 = n then some G.length else none := by
  induction G with
  | nil =>
    simp only [List.nil_append, gvar, Option.map_none, List.length_nil]
  | cons y G ih =>
    simp only [List.cons_append, gvar]
    split
    · rfl
    · rw [ih]
      cases gvar G n with
      | some i => rfl
      | none =>
        simp only [Option.map_none, List.length_cons]
        split <;> rfl
theorem gvar_lt {G : List Gn} {n : Int} {i : Nat} (h : gvar G n = some i) : i < G.length := by
  induction G generalizing i with
  | nil => cases h
  | cons x G ih =>
    simp only [gvar] at h
    split at h
    · cases h; simp
    · obtain ⟨j, hj, rfl⟩ := Option.map_eq_some_iff.1 h
      have := ih hj
      simp; omega
/-- The variables' nodes, as the map has them. -/
def gvf (G : List Gn) : Int → Option Value := fun n => (gvar G n).map fun i => .int .i64 i
theorem gvf_snoc_var (G : List Gn) (n : Int) (s : Nat) (P : List Nat) (h : gvar G n = none) : gvf (G ++ [(1, n, s, P)]) = upd (gvf G) n (.int .i64 G.length) := by
  funext m
  simp only [gvf, upd, gvar_snoc]
  by_cases e : m = n
  · subst e; rw [h]; simp
  · cases gvar G m with
    | some i => simp [e]
    | none => simp [Ne.symm e]; intro h; exact absurd h e
theorem gvf_snoc_other (G : List Gn) (k n : Int) (s : Nat) (P : List Nat) (h : k ≠ 1) : gvf (G ++ [(k, n, s, P)]) = gvf G := by
  funext m
  simp only [gvf, gvar_snoc]
  cases gvar G m with
  | some i => rfl
  | none => simp [h]
/-- How great the parts' types are together. -/
def gsum (G : List Gn) (P : List Nat) : Nat := (P.map fun p => (G[p]?.map (·.2.2.1)).getD 0).sum
/-- The node of a type whose parts have these. -/
def gnode (G : List Gn) (k n : Int) (P : List Nat) : List Gn × Nat :=
  match (if k = 1 then gvar G n else none) with
  | some i => (G, i)
  | none => (G ++ [(k, n, 1 + gsum G P, P)], G.length)
mutual
/-- A type's node. -/
def gadd1 (G : List Gn) (k n : Int) (ps : Fo) : List Gn × Nat := let r := gadd G ps; gnode r.1 k n r.2
/-- Those of some types. -/
def gadd (G : List Gn) : Fo → List Gn × List Nat
  | .nil => (G, [])
  | .cons k n _ ps r => let x := gadd1 G k n ps; let y := gadd x.1 r; (y.1, x.2 :: y.2)
end
/-- What one that is visited does to the nodes, and to the parts that have no type yet. -/
def gstep (s : List Gn × List Nat) (x : Tr) : List Gn × List Nat :=
  let m := s.2.length - x.2.2.2.1
  let r := gnode s.1 x.1 x.2.1 (s.2.drop m)
  (r.1, s.2.take m ++ [r.2])
end Go.Proofs.Ytbdckmnppeglfaa
/- What the visits come to. -/
namespace Go.Proofs.Ytbdckmnppeglfaa
/-- Each slice is as long as its parts. -/
def LenOk : Fo → Prop
  | .nil => True
  | .cons _ _ u ps r => u.2.1 = ps.len ∧ LenOk ps ∧ LenOk r
theorem gadd_nil (G : List Gn) : gadd G .nil = (G, []) := by simp [gadd]
theorem gadd_cons (G : List Gn) (k n : Int) (u : Sl) (ps r : Fo) : gadd G (.cons k n u ps r) = ((gadd (gadd1 G k n ps).1 r).1, (gadd1 G k n ps).2 :: (gadd (gadd1 G k n ps).1 r).2) := by simp [gadd]
theorem gadd1_eq (G : List Gn) (k n : Int) (ps : Fo) : gadd1 G k n ps = gnode (gadd G ps).1 k n (gadd G ps).2 := by simp [gadd1]
theorem gadd_len (F : Fo) : ∀ G, (gadd G F).2.length = F.len := by
  induction F with
  | nil => intro G; simp [gadd_nil, Fo.len]
  | cons k n u ps r _ ih => intro G; rw [gadd_cons]; simp [Fo.len, ih]
/-- One behind the other, they are the types' nodes. -/
theorem gfold (F : Fo) : ∀ (G : List Gn) (M : List Nat), LenOk F → (grO F).reverse.foldl gstep (G, M) = ((gadd G F).1, M ++ (gadd G F).2) := by
  induction F with
  | nil => intro G M _; simp [grO, gadd_nil]
  | cons k n u ps r i1 i2 =>
    intro G M h
    obtain ⟨h1, h2, h3⟩ := h
    have e : (grO (.cons k n u ps r)).reverse = (grO ps).reverse ++ (k, n, u) :: (grO r).reverse := by simp [grO]
    rw [e, List.foldl_append, List.foldl_cons, i1 G M h2]
    have hl := gadd_len ps G
    have es : gstep ((gadd G ps).1, M ++ (gadd G ps).2) (k, n, u) = ((gadd1 G k n ps).1, M ++ [(gadd1 G k n ps).2]) := by
      have hm : (M ++ (gadd G ps).2).length - u.2.1 = M.length := by rw [List.length_append, hl, h1]; omega
      simp only [gstep, hm, gadd1_eq]
      simp
    rw [es, i2 _ _ h3, gadd_cons]
    simp
/-- A type's slices are as long as its parts. -/
theorem TyL.lenOk {B : Nat} {w : World} {f : Fo} (h : TyL B w f) : LenOk f := by
  induction f with
  | nil => trivial
  | cons k n u ps r i1 i2 => exact ⟨TyV.len (u := u) h.1, i1 (TyV.list h.1), i2 h.2⟩
end Go.Proofs.Ytbdckmnppeglfaa
