/- Texts of one proof, one behind the other. -/
import Derived.Test.YtbnpmeaaaecciaaMgUnifyParts5
import Derived.Test.YtbnpmeaaaecciaaMgUnifyParts1
import Derived.Test.YtbnpmeaaaecciaaMgUnifyParts2
import Derived.Test.YtbnpmeaaaecciaaMgUnifyParts3
import Derived.Deep.DeepCutAuto
import Derived.Deep.RegionWith
import Derived.Lib.SliceRun
/- Maps from numbers that a call made, told as functions: whatever their elements are. -/
namespace Go.Proofs.Ytbnpmeaaaecciaa
open Go.RowKit Go.Shelf Go.Maps Go.WideShapes Go.ChangeMaps Go.MapKept

/-- How an element reads: as it is. -/
def heldE (v : Value) : Option (DataW Value × List MemPlace) := some (.held v, [])
/-- A map's type: its keys are numbers, its elements have that zero. -/
structure MapTy (mt e : TypeId) (z : Value) : Prop where
  und : Try.prog.underlying mt = some (.map 3 e)
  zero : ∀ w, (zeroValue e).run Try.prog w = .ok z w
/-- One more. -/
def upd (f : Int → Option Value) (n : Int) (v : Value) : Int → Option Value := fun m => if m = n then some v else f m
/-- A map that has these, so many, laid by at most so many stores. -/
def MapF (f : Int → Option Value) (S L b : Nat) (W : World) : Prop :=
  ∃ (k : Nat) (D : DataW Value), W.ownsMap Try.prog 3 heldE b k D ∧ k ≤ L ∧ Tidy D ∧ Maps.size D = S ∧ ∀ n : Int, (Lit.int .i64 n).wf = true → has D (.int .i64 n) = (f n).isSome ∧ ∀ z, D.atKey (.int .i64 n) (.held z) = .held ((f n).getD z)
theorem MapF.made (w : World) : MapF (fun _ => none) 0 0 w.heap.size (w.alloc (.map #[] 0)) := ⟨0, .map [], World.ownsMap_made _ _ _ _, Nat.le_refl _, tidy_empty, rfl, fun _ _ => ⟨rfl, fun _ => rfl⟩⟩
theorem MapF.kept {f : Int → Option Value} {S L b : Nat} {W W' : World} {row : Option Nat} (h : MapF f S L b W) (hg : W.grownBy W' row) (hne : some b ≠ row) : MapF f S L b W' := by
  obtain ⟨k, D, h1, h2⟩ := h
  exact ⟨k, D, h1.kept hg hne, h2⟩
theorem MapF.block {f : Int → Option Value} {S L b : Nat} {W W' : World} (h : MapF f S L b W) (hb : W'.heap[b]? = W.heap[b]?) : MapF f S L b W' := by
  obtain ⟨k, D, ⟨es, ck, h1, h3⟩, h2⟩ := h
  exact ⟨k, D, ⟨es, ck, hb.trans h1, h3⟩, h2⟩
theorem MapF.lt {f : Int → Option Value} {S L b : Nat} {W : World} (h : MapF f S L b W) : b < W.heap.size := by obtain ⟨_, _, h1, _⟩ := h; exact h1.lt
theorem MapF.below {f : Int → Option Value} {S L b : Nat} {W W' : World} (h : MapF f S L b W) (hb : Below W.heap.size W W') : MapF f S L b W' := h.block (hb.block b h.lt)
theorem MapF.le {f : Int → Option Value} {S L L' b : Nat} {W : World} (h : MapF f S L b W) (hl : L ≤ L') : MapF f S L' b W := by
  obtain ⟨k, D, h1, h2, h3⟩ := h
  exact ⟨k, D, h1, Nat.le_trans h2 hl, h3⟩
theorem MapF.ext {f g : Int → Option Value} {S L b : Nat} {W : World} (h : MapF f S L b W) (he : ∀ n, (Lit.int .i64 n).wf = true → f n = g n) : MapF g S L b W := by
  obtain ⟨k, D, h1, h2, h3, h4, h5⟩ := h
  exact ⟨k, D, h1, h2, h3, h4, fun n hn => by rw [← he n hn]; exact h5 n hn⟩
theorem MapF.look {f : Int → Option Value} {S L b : Nat} {W : World} (h : MapF f S L b W) {mt e : TypeId} {z : Value} (M : MapTy mt e z) (n : Int) (hn : (Lit.int .i64 n).wf = true) : (Instr.lookup mt (.map (some b)) (.int .i64 n) false).run Try.prog W = .ok ((f n).getD z) W := by
  obtain ⟨k, D, h1, _, _, _, h3⟩ := h
  obtain ⟨v, ps, hrun, hv⟩ := h1.lookup lawI M.und (M.zero W) (zd := .held z) (zp := []) rfl (keyOf_int_mk Try.underlying3 hn)
  rw [(h3 n hn).2] at hv
  simp only [heldE, Option.some.injEq, Prod.mk.injEq, DataW.held.injEq] at hv
  rw [hrun, hv.1]
theorem MapF.look_ok {f : Int → Option Value} {S L b : Nat} {W : World} (h : MapF f S L b W) {mt e : TypeId} {z : Value} (M : MapTy mt e z) (n : Int) (hn : (Lit.int .i64 n).wf = true) : (Instr.lookup mt (.map (some b)) (.int .i64 n) true).run Try.prog W = .ok (.tuple #[(f n).getD z, .bool (f n).isSome]) W := by
  obtain ⟨k, D, h1, _, _, _, h3⟩ := h
  obtain ⟨v, ps, hrun, hv⟩ := h1.look_ok lawI M.und (M.zero W) (zd := .held z) (zp := []) rfl (keyOf_int_mk Try.underlying3 hn)
  rw [(h3 n hn).2] at hv
  simp only [heldE, Option.some.injEq, Prod.mk.injEq, DataW.held.injEq] at hv
  rw [hrun, hv.1, (h3 n hn).1]
theorem MapF.len {f : Int → Option Value} {S L b : Nat} {W : World} (h : MapF f S L b W) {mt e : TypeId} {z : Value} (M : MapTy mt e z) (ty : TypeId) : (Builtin.len_ #[mt] ty #[.map (some b)]).run Try.prog W = .ok (.int .i64 S) W := by
  obtain ⟨k, D, h1, _, _, h2, _⟩ := h
  have := h1.len M.und ty
  rwa [h2] at this
theorem MapF.put {f : Int → Option Value} {S L b : Nat} {W : World} (h : MapF f S L b W) {mt e : TypeId} {z : Value} (M : MapTy mt e z) (hl : L ≤ 1000000000) (n : Int) (hn : (Lit.int .i64 n).wf = true) (v : Value) :
    ∃ W', (Instr.mapUpdate mt (.map (some b)) (.int .i64 n) v).run Try.prog W = .ok () W' ∧ MapF (upd f n v) (if (f n).isSome then S else S + 1) (L + 1) b W' ∧ W.grownBy W' (some b) ∧ (∀ i, i ≠ b → W'.heap[i]? = W.heap[i]?) ∧ W'.heap.size = W.heap.size := by
  obtain ⟨k, D, h1, h2, ht, hs, h3⟩ := h
  obtain ⟨w', hrun, ho, hg⟩ := h1.store lawI M.und (by unfold maxLen; omega) (keyOf_int_mk Try.underlying3 hn) (val := v) (d := .held v) (ps := []) rfl
  refine ⟨w', hrun, ⟨k + 1, _, ho, by omega, ht.put (by trivial) _, ?_, fun m hm2 => ?_⟩, hg.grown, ?_, ?_⟩
  · rw [size_put ht, (h3 n hn).1, hs]
  · by_cases e : m = n
    · subst e
      exact ⟨by rw [has_put_same ht.isMap (by trivial)]; simp [upd], fun z => by rw [atKey_put_same ht.isMap (by trivial)]; simp [upd]⟩
    · have hne : (Lit.int .i64 m) ≠ .int .i64 n := by simpa using e
      exact ⟨by rw [has_put_other hne, (h3 m hm2).1]; simp [upd, e], fun z => by rw [atKey_put_other hne, (h3 m hm2).2]; simp [upd, e]⟩
  · obtain ⟨es, ck, es', ck', hb, rfl⟩ := hg
    exact fun i hi => heap_setBlock_other hb _ hi
  · obtain ⟨es, ck, es', ck', hb, rfl⟩ := hg
    simp [setBlock]
/-- Nothing is found in a map that isn't there. -/
theorem nil_look {mt e : TypeId} {z : Value} (M : MapTy mt e z) (W : World) (n : Int) (hn : (Lit.int .i64 n).wf = true) (c : Bool) : (Instr.lookup mt (.map none) (.int .i64 n) c).run Try.prog W = .ok (if c then .tuple #[z, .bool false] else z) W :=
  look_nil c lawI M.und (M.zero W) (keyOf_int_mk Try.underlying3 hn)
theorem zeroInt (w : World) : (zeroValue 3).run Try.prog w = .ok (.int .i64 0) w := by kernel_rfl
theorem intsTy : MapTy 77 3 (.int .i64 0) := ⟨Try.underlying77, zeroInt⟩
end Go.Proofs.Ytbnpmeaaaecciaa
/- A graph's nodes, as a list; what a type's node is. -/
namespace Go.Proofs.Ytbnpmeaaaecciaa
open Go.RowKit Go.Shelf Go.Maps Go.WideShapes
/-- A node: its kind, its name, its type's size, its parts. -/
abbrev Gn := Int × Int × Nat × List Nat
/-- A variable's node. -/
def gvar : List Gn → Int → Option Nat
  | [], _ => none
  | x :: G, n => if x.1 = 1 ∧ x.2.1 = n then some 0 else (gvar G n).map (· + 1)
theorem gvar_snoc (G : List Gn) (x : Gn) (n : Int) : gvar (G ++ [x]) n = match gvar G n with
    | some i => some i
    | none => if x.1 = 1 ∧ x.2.1 = n then some G.length else none := by
  induction G with
  | nil =>
    simp only [List.nil_append, gvar, Option.map_none, List.length_nil]
  | cons y G ih =>
    simp only [List.cons_append, gvar]
    split
    · rfl
    · rw [ih]
      cases gvar G n with
      | some i => rfl
      | none =>
        simp only [Option.map_none, List.length_cons]
        split <;> rfl
theorem gvar_lt {G : List Gn} {n : Int} {i : Nat} (h : gvar G n = some i) : i < G.length := by
  induction G generalizing i with
  | nil => cases h
  | cons x G ih =>
    simp only [gvar] at h
    split at h
    · cases h; simp
    · obtain ⟨j, hj, rfl⟩ := Option.map_eq_some_iff.1 h
      have := ih hj
      simp; omega
/-- The variables' nodes, as the map has them. -/
def gvf (G : List Gn) : Int → Option Value := fun n => (gvar G n).map fun i => .int .i64 i
theorem gvf_snoc_var (G : List Gn) (n : Int) (s : Nat) (P : List Nat) (h : gvar G n = none) : gvf (G ++ [(1, n, s, P)]) = upd (gvf G) n (.int .i64 G.length) := by
  funext m
  simp only [gvf, upd, gvar_snoc]
  by_cases e : m = n
  · subst e; rw [h]; simp
  · cases gvar G m with
    | some i => simp [e]
    | none => simp [Ne.symm e]; intro h; exact absurd h e
theorem gvf_snoc_other (G : List Gn) (k n : Int) (s : Nat) (P : List Nat) (h : k ≠ 1) : gvf (G ++ [(k, n, s, P)]) = gvf G := by
  funext m
  simp only [gvf, gvar_snoc]
  cases gvar G m with
  | some i => rfl
  | none => simp [h]
/-- How great the parts' types are together. -/
def gsum (G : List Gn) (P : List Nat) : Nat := (P.map fun p => (G[p]?.map (·.2.2.1)).getD 0).sum
/-- The node of a type whose parts have these. -/
def gnode (G : List Gn) (k n : Int) (P : List Nat) : List Gn × Nat :=
  match (if k = 1 then gvar G n else none) with
  | some i => (G, i)
  | none => (G ++ [(k, n, 1 + gsum G P, P)], G.length)
mutual
/-- A type's node. -/
def gadd1 (G : List Gn) (k n : Int) (ps : Fo) : List Gn × Nat := let r := gadd G ps; gnode r.1 k n r.2
/-- Those of some types. -/
def gadd (G : List Gn) : Fo → List Gn × List Nat
  | .nil => (G, [])
  | .cons k n _ ps r => let x := gadd1 G k n ps; let y := gadd x.1 r; (y.1, x.2 :: y.2)
end
/-- What one that is visited does to the nodes, and to the parts that have no type yet. -/
def gstep (s : List Gn × List Nat) (x : Tr) : List Gn × List Nat :=
  let m := s.2.length - x.2.2.2.1
  let r := gnode s.1 x.1 x.2.1 (s.2.drop m)
  (r.1, s.2.take m ++ [r.2])
end Go.Proofs.Ytbnpmeaaaecciaa
/- The answer's In. -/
namespace Go.Proofs.Ytbnpmeaaaecciaa
open Go.RowKit

end Go.Proofs.Ytbnpmeaaaecciaa
/- Variables: the plain facts; an append of numbers; the answer's Vars. -/
namespace Go.Proofs.Ytbnpmeaaaecciaa
open Go.RowKit Go.Shelf
attribute [local go_sem ↓] builtin_app
theorem intInfo : (Try.prog.info? 3).map (fun i => (i.zero, i.size, i.bytes)) = some (some (.int .i64 0), 1, 8) := by kernel_rfl
def ints (L : List Int) : List Value := L.map (Value.int .i64)
theorem ints_len (L : List Int) : (ints L).length = L.length := by simp [ints]
theorem ints_app (a b : List Int) : ints (a ++ b) = ints a ++ ints b := by simp [ints]
theorem ints_one (L : List Int) : ∀ u ∈ ints L, u.oneCell' = true := by
  intro u hu
  obtain ⟨x, _, rfl⟩ := List.mem_map.1 hu
  rfl
/-- An append of numbers. -/
theorem app_int (W : World) (base : Nat) (v : Value) (L : List Int) (own : W.ownsRow base 3 1 v L.length (ints L)) (vx : Value) (L2 : List Int) (rd : Rd W 1 vx L2.length (ints L2)) (hl : L.length + L2.length ≤ 100000000) (hbase : base ≤ W.heap.size) :
    ∃ v' W', (app_ #[43, 43] 43 #[v, vx]).run Try.prog W = .ok v' W' ∧ W'.ownsRow base 3 1 v' (L ++ L2).length (ints (L ++ L2)) ∧ Below base W W' ∧ KeepT 36 W W' ∧ W.grownBy W' v.ownBlock ∧ (v'.ownBlock = v.ownBlock ∨ v'.ownBlock = some W.heap.size) := by
  obtain ⟨i0, hi0, hz0, hz1, hz2⟩ := info_parts intInfo
  obtain ⟨v1, w1, hrun, hown, hg, hat⟩ := run_append_rd (P := Try.prog) W base 43 43 3 i0 _ 1 8 Try.underlying43 hi0 hz0 hz1 hz2 rfl (by omega) v _ _ own vx _ _ rd (ints_one _) (by unfold maxLen; omega) (by omega) hbase
  refine ⟨v1, w1, hrun, ?_, (Below.refl _ _).grown hg hbase (fun k e => (own.lt k e).1), KeepT.grown hg (row_not own (by decide)), hg, hat⟩
  rw [List.length_append, ints_app]
  exact hown
/-- One type's variable, behind others. -/
def addV (l : List Int) (x : Tr) : List Int := if x.1 = 1 ∧ ¬ x.2.1 ∈ l then l ++ [x.2.1] else l
def varsL (l : List Int) (L : List Tr) : List Int := L.foldl addV l
theorem varsL_len (L : List Tr) (l : List Int) : (varsL l L).length ≤ l.length + L.length := by
  induction L generalizing l with
  | nil => simp [varsL]
  | cons x r ih =>
    have h := ih (addV l x)
    have h2 : (addV l x).length ≤ l.length + 1 := by unfold addV; split <;> simp
    simp only [varsL, List.foldl_cons, List.length_cons] at h ⊢
    omega
theorem varsL_app (l : List Int) (a b : List Tr) : varsL l (a ++ b) = varsL (varsL l a) b := by simp [varsL]
/-- A list of numbers, at a value. -/
def IsInts (L : List Int) (w : World) (e : Ending) (w' : World) : Prop := ∃ v, e = .returned v ∧ Rd w' 1 v L.length (ints L) ∧ Below w.heap.size w w'
theorem Rd.form {w : World} {size : Nat} {v : Value} {n : Nat} {xs : List Value} (h : Rd w size v n xs) : ∃ A c, v = .slice A n c := by
  rcases h.2 with ⟨h0, A, c, h⟩ | ⟨b, off, cap, h, _⟩
  · exact ⟨A, c, by rw [h, h0]⟩
  · exact ⟨_, cap, h⟩
end Go.Proofs.Ytbnpmeaaaecciaa
/- A graph in memory. -/
namespace Go.Proofs.Ytbnpmeaaaecciaa
open Go.RowKit Go.Shelf Go.Maps Go.WideShapes
/-- A node as it lies: its kind, its name, its size, its parts' slice. -/
abbrev Nd := Int × Int × Int × Sl
def ndC (x : Nd) : List Value := [.int .i64 x.1, .int .i64 x.2.1, .int .i64 x.2.2.1, slv x.2.2.2]
def toI (P : List Nat) : List Int := P.map fun p : Nat => (p : Int)
theorem toI_len (P : List Nat) : (toI P).length = P.length := by simp [toI]
def nums (P : List Nat) : List Value := ints (toI P)
theorem nums_len (P : List Nat) : (nums P).length = P.length := by simp [nums, ints_len, toI_len]
/-- A node reads so; its parts lie in cells of numbers, from B on. -/
def NdR (B : Nat) (w : World) (x : Nd) (y : Gn) : Prop := x.1 = y.1 ∧ x.2.1 = y.2.1 ∧ x.2.2.1 = (y.2.2.1 : Int) ∧ w.ownsRow B 3 1 (slv x.2.2.2) y.2.2.2.length (nums y.2.2.2)
def NdL (B : Nat) (w : World) : List Nd → List Gn → Prop
  | [], [] => True
  | x :: L, y :: G => NdR B w x y ∧ NdL B w L G
  | _, _ => False
theorem NdL.len {B : Nat} {w : World} {L : List Nd} {G : List Gn} (h : NdL B w L G) : L.length = G.length := by
  induction L generalizing G with
  | nil => cases G with
    | nil => rfl
    | cons => exact h.elim
  | cons x L ih => cases G with
    | nil => exact h.elim
    | cons y G => simp [ih h.2]
theorem NdL.snoc {B : Nat} {w : World} {L : List Nd} {G : List Gn} {x : Nd} {y : Gn} (h : NdL B w L G) (hx : NdR B w x y) : NdL B w (L ++ [x]) (G ++ [y]) := by
  induction L generalizing G with
  | nil => cases G with
    | nil => exact ⟨hx, trivial⟩
    | cons => exact h.elim
  | cons z L ih => cases G with
    | nil => exact h.elim
    | cons y G => exact ⟨h.1, ih h.2⟩
theorem NdL.at {B : Nat} {w : World} {L : List Nd} {G : List Gn} (h : NdL B w L G) (i : Nat) (hi : i < L.length) (hj : i < G.length) : NdR B w L[i] G[i] := by
  induction L generalizing G i with
  | nil => simp at hi
  | cons z L ih => cases G with
    | nil => exact h.elim
    | cons y G =>
      cases i with
      | zero => exact h.1
      | succ i => exact ih h.2 i (by simpa using hi) (by simpa using hj)
/-- What keeps the cells of numbers keeps the parts. -/
theorem NdL.to {B : Nat} {w w' : World} {L : List Nd} {G : List Gn} (h : NdL B w L G) (hk : ∀ (b : Nat) (cs : Array Value), B ≤ b → w.heap[b]? = some (Obj.cells cs 3) → w'.heap[b]? = some (Obj.cells cs 3)) : NdL B w' L G := by
  induction L generalizing G with
  | nil => cases G with
    | nil => trivial
    | cons => exact h.elim
  | cons x L ih => cases G with
    | nil => exact h.elim
    | cons y G =>
      obtain ⟨⟨h1, h2, h3, h4⟩, h5⟩ := h
      refine ⟨⟨h1, h2, h3, h4.1, ?_⟩, ih h5⟩
      rcases h4.2 with h | ⟨g, cap, cur, hv, hb, hg, hr⟩
      · exact .inl h
      · exact .inr ⟨g, cap, cur, hv, hb, hk _ _ hb hg, hr⟩
/-- The graph: its block, its nodes' slice, its map. -/
structure GrM (B : Nat) (w : World) (g : Nat) (v : Value) (mb : Nat) (L : List Nd) (G : List Gn) : Prop where
  cell : w.heap[g]? = some (Obj.cells #[v, .map (some mb)] 115)
  row : w.ownsRow B 124 4 v L.length (L.flatMap ndC)
  nodes : NdL B w L G
  vars : ∃ S, MapF (gvf G) S G.length mb w
  ge : B ≤ g ∧ B ≤ mb
theorem GrM.lt {B : Nat} {w : World} {g : Nat} {v : Value} {mb : Nat} {L : List Nd} {G : List Gn} (h : GrM B w g v mb L G) : g < w.heap.size ∧ mb < w.heap.size :=
  ⟨(Array.getElem?_eq_some_iff.1 h.cell).1, by obtain ⟨_, hm⟩ := h.vars; exact hm.lt⟩
/-- It stands as long as its blocks do. -/
theorem GrM.to {B : Nat} {w w' : World} {g : Nat} {v : Value} {mb : Nat} {L : List Nd} {G : List Gn} (h : GrM B w g v mb L G)
    (hg : w'.heap[g]? = w.heap[g]?) (hm : w'.heap[mb]? = w.heap[mb]?) (hr : ∀ b, v.ownBlock = some b → w'.heap[b]? = w.heap[b]?)
    (hk : ∀ (b : Nat) (cs : Array Value), B ≤ b → w.heap[b]? = some (Obj.cells cs 3) → w'.heap[b]? = some (Obj.cells cs 3)) : GrM B w' g v mb L G := by
  refine ⟨hg.trans h.cell, ⟨h.row.1, ?_⟩, h.nodes.to hk, ?_, h.ge⟩
  · rcases h.row.2 with h2 | ⟨b, cap, cur, hv, hb, hh, hr2⟩
    · exact .inl h2
    · exact .inr ⟨b, cap, cur, hv, hb, (hr b (by rw [hv]; rfl)).trans hh, hr2⟩
  · obtain ⟨S, hv⟩ := h.vars
    exact ⟨S, hv.block hm⟩
theorem GrM.below {B : Nat} {w w' : World} {g : Nat} {v : Value} {mb : Nat} {L : List Nd} {G : List Gn} (h : GrM B w g v mb L G) (hb : Below w.heap.size w w') : GrM B w' g v mb L G :=
  h.to (hb.block _ h.lt.1) (hb.block _ h.lt.2) (fun b e => hb.block _ (h.row.lt b e).2) fun b _ _ hc => (hb.block b (Array.getElem?_eq_some_iff.1 hc).1).trans hc
set_option maxRecDepth 100000 in
set_option maxHeartbeats 1000000 in
/-- graph.New. -/
theorem new_graph (w : World) : Calls Try.prog 38 #[] w fun e w' => ∃ g mb, e = .returned (.pointer (some ⟨g, 0, none⟩)) ∧ GrM w.heap.size w' g (.slice none 0 0) mb [] [] ∧ Below w.heap.size w w' := by
  have hmm := @run_makeMap Try.prog
  go_enter Try.func38, Try.ntmps38
  go_wp2_with fail
  refine bodyPost_ret (results_tmp rfl _ _ _) rfl ?_
  have hb1 : Below w.heap.size w (w.alloc (Obj.map #[] 0)) := (Below.refl _ _).alloc (Nat.le_refl _) _
  refine ⟨_, _, rfl, ⟨?_, World.ownsRow_nil _ _ _ _, trivial, ⟨0, ?_⟩, ⟨by omega, Nat.le_refl _⟩⟩, hb1.alloc (by simp) _⟩
  · have := heap_alloc_new (w.alloc (Obj.map #[] 0)) (Obj.cells #[.slice none 0 0, .map (some w.heap.size)] 115)
    rwa [World.size_alloc] at this
  · exact (MapF.made w).kept (World.grownBy_alloc _ _ none) (by simp)
end Go.Proofs.Ytbnpmeaaaecciaa
/- slices.Clone at numbers. -/
namespace Go.Proofs.Ytbnpmeaaaecciaa
open Go.RowKit Go.Shelf
attribute [local go_sem ↓] builtin_app
set_option maxRecDepth 100000 in
set_option maxHeartbeats 1000000 in
theorem clone_ints (w : World) (v : Value) (L : List Int) (hR : Rd w 1 v L.length (ints L)) (hl : L.length ≤ 10000000) :
    Calls Try.prog 81 #[v] w fun e w' => ∃ v', e = .returned v' ∧ w'.ownsRow w.heap.size 3 1 v' L.length (ints L) ∧ Below w.heap.size w w' := by
  obtain ⟨A, c, rfl⟩ := hR.form
  have hnil := fun (w : World) (a : Option Addr) (n c n' c' : Nat) => Lib.run_eql_slice_nil (P := Try.prog) w 43 3 a n c n' c' Try.underlying43
  cases A with
  | none =>
    have h0 : L.length = 0 := by
      rcases hR.2 with ⟨h, _⟩ | ⟨_, _, _, h, _⟩
      · exact h
      · cases h
    have hL : L = [] := List.eq_nil_of_length_eq_zero h0
    subst hL
    go_enter Try.func81, Try.ntmps81
    go_wp2_with fail
    exact bodyPost_ret (results_tmp rfl _ _ _) rfl ⟨_, rfl, World.ownsRow_nil _ _ _ _, Below.refl _ _⟩
  | some a =>
    obtain ⟨w1, hw1⟩ : ∃ w1, w.alloc (.cells #[] 3) = w1 := ⟨_, rfl⟩
    have hb1 : Below w.heap.size w w1 := by rw [← hw1]; exact (Below.refl _ _).alloc (Nat.le_refl _) _
    have hs1 : w1.heap.size = w.heap.size + 1 := by rw [← hw1]; simp
    have h1 : w1.heap[w.heap.size]? = some (.cells #[] 3) := by rw [← hw1]; exact heap_alloc_new _ _
    have own0 : w1.ownsRow w.heap.size 3 1 (.slice (some ⟨w.heap.size, 0, none⟩) 0 0) ([] : List Int).length (ints []) := ⟨rfl, .inr ⟨w.heap.size, 0, _, rfl, Nat.le_refl _, h1, Nat.le_refl _, by unfold maxLen; omega, by simp, by simp [ints]⟩⟩
    obtain ⟨v2, w2, run2, own2, b2, _, _, _⟩ := app_int w1 w.heap.size _ [] own0 _ L (hR.below hb1) (by simp; omega) (by omega)
    rw [List.nil_append] at own2
    have H2 := Lib.hid (And.intro own2 (hb1.trans b2))
    clear hR hb1 hs1 h1 own0 own2 b2
    go_enter Try.func81, Try.ntmps81
    go_wp2_with fail
    exact bodyPost_ret (results_tmp rfl _ _ _) rfl ⟨v2, rfl, H2.out⟩
end Go.Proofs.Ytbnpmeaaaecciaa
/- What is asked of a graph that is there, or isn't: Len, has, Kind. -/
namespace Go.Proofs.Ytbnpmeaaaecciaa
open Go.RowKit Go.Shelf
set_option maxRecDepth 100000
theorem results_tmp2 {fn : Func} {p q : Tmp} (h : fn.results = #[.tmp p, .tmp q]) (tmps : Array Value) (P : Program) (w : World) : (results fn tmps).run P w = .ok (.tuple #[tmps.getD p undef, tmps.getD q undef]) w := by
  simp [results, h]
theorem results_cell_tmp {P : Program} {fn : Func} {p q : Tmp} {ty : TypeId} (h : fn.results = #[.cell p ty, .tmp q]) (tmps : Array Value) (w : World) (g : Nat) (v : Value)
    (hp : tmps.getD p undef = .pointer (some ⟨g, 0, none⟩)) (hl : (loadVar ty ⟨g, 0, none⟩).run P w = .ok v w) : (results fn tmps).run P w = .ok (.tuple #[v, tmps.getD q undef]) w := by
  have hp' : tmps[p]?.getD undef = .pointer (some ⟨g, 0, none⟩) := by simpa using hp
  simp [results, h, hp', asAddr, hl]
theorem len_none (w : World) : Calls Try.prog 72 #[.pointer none] w fun e w' => e = .returned (.int .i64 0) ∧ w' = w := by
  go_enter Try.func72, Try.ntmps72
  go_wp2_with fail
  exact bodyPost_ret (results_tmp rfl _ _ _) rfl ⟨rfl, rfl⟩
theorem len_graph (w : World) (B g mb : Nat) (v : Value) (L : List Nd) (G : List Gn) (hG : GrM B w g v mb L G) : Calls Try.prog 72 #[.pointer (some ⟨g, 0, none⟩)] w fun e w' => e = .returned (.int .i64 (G.length : Nat)) ∧ w' = w := by
  obtain ⟨A, c, rfl, _, _⟩ := own_form hG.row
  have g0 : w.cell? ⟨g, 0, none⟩ = some (.slice A L.length c) := cell_of_row w _ 0 _ _ (0, 0) hG.cell
  have hl := hG.nodes.len
  have HL := Lib.hid hl
  clear hl hG
  go_enter Try.func72, Try.ntmps72
  go_wp2_with fail
  exact bodyPost_ret (results_tmp rfl _ _ _) rfl ⟨by rw [← HL.out]; rfl, rfl⟩
theorem has_none (w : World) (i : Int) : Calls Try.prog 80 #[.pointer none, .int .i64 i] w fun e w' => e = .returned (.bool false) ∧ Below w.heap.size w w' := by
  by_cases h : 0 ≤ i
  · have f1 : decide ((0 : Int) ≤ i) = true := by simpa using h
    have f2 : decide (i < (0 : Int)) = false := by simpa using h
    go_enter Try.func80, Try.ntmps80
    go_wp2_with (go_at_call 72; refine (len_none _).mono ?_; rintro e w' ⟨rfl, rfl⟩)
    exact bodyPost_ret (results_tmp rfl _ _ _) rfl ⟨rfl, Below.refl _ _⟩
  · have f1 : decide ((0 : Int) ≤ i) = false := by simpa using h
    go_enter Try.func80, Try.ntmps80
    go_wp2_with fail
    exact bodyPost_ret (results_tmp rfl _ _ _) rfl ⟨rfl, Below.refl _ _⟩
theorem kind_none (w : World) (i : Int) : Calls Try.prog 53 #[.pointer none, .int .i64 i] w fun e w' => e = .returned (.int .i64 0) ∧ Below w.heap.size w w' := by
  go_enter Try.func53, Try.ntmps53
  go_wp2_with fail
  refine (has_none _ i).mono ?_
  rintro e w' ⟨rfl, hb⟩
  go_wp2_with fail
  exact bodyPost_ret (results_tmp rfl _ _ _) rfl ⟨rfl, hb⟩
theorem parts_none (w : World) (i : Int) : Calls Try.prog 55 #[.pointer none, .int .i64 i] w fun e w' => e = .returned (.slice none 0 0) ∧ Below w.heap.size w w' := by
  go_enter Try.func55, Try.ntmps55
  go_wp2_with fail
  refine (has_none _ i).mono ?_
  rintro e w' ⟨rfl, hb⟩
  go_wp2_with fail
  exact bodyPost_ret (results_tmp rfl _ _ _) rfl ⟨rfl, hb⟩
theorem var_none (w : World) (n : Int) : Calls Try.prog 79 #[.pointer none, .int .i64 n] w fun e w' => e = .returned (.tuple #[.int .i64 0, .bool false]) ∧ Below w.heap.size w w' := by
  go_enter Try.func79, Try.ntmps79
  go_wp2_with fail
  exact bodyPost_ret (results_tmp2 rfl _ _ _) rfl ⟨rfl, Below.refl _ _⟩
theorem vars_none (w : World) : Calls Try.prog 84 #[.pointer none] w fun e w' => e = .returned (.slice none 0 0) ∧ Below w.heap.size w w' := by
  go_enter Try.func84, Try.ntmps84
  go_wp2_with fail
  exact bodyPost_ret (results_tmp rfl _ _ _) rfl ⟨rfl, Below.refl _ _⟩
theorem name_none (w : World) (i : Int) : Calls Try.prog 54 #[.pointer none, .int .i64 i] w fun e w' => e = .returned (.tuple #[.int .i64 0, .bool false]) ∧ Below w.heap.size w w' := by
  go_enter Try.func54, Try.ntmps54
  go_wp2_with fail
  refine (kind_none _ i).mono ?_
  rintro e w' ⟨rfl, hb⟩
  go_wp2_with fail
  exact bodyPost_ret (results_tmp2 rfl _ _ _) rfl ⟨rfl, hb⟩
theorem add_none (w : World) (k n : Int) (u : Sl) : Calls Try.prog 41 #[.pointer none, tyVal k n (slv u)] w fun e w' => e = .returned (.tuple #[.int .i64 0, .int .i64 10]) ∧ Below w.heap.size w w' := by
  obtain ⟨u1, u2, u3⟩ := u
  dsimp only [tyVal, slv]
  go_enter Try.func41, Try.ntmps41
  go_wp2_with fail
  exact bodyPost_ret (results_tmp2 rfl _ _ _) rfl ⟨rfl, ((Below.refl _ _).alloc (Nat.le_refl _) _).alloc (by simp) _⟩
end Go.Proofs.Ytbnpmeaaaecciaa
