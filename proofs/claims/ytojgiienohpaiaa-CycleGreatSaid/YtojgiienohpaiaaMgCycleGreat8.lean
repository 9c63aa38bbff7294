/- Texts of one proof, one behind the other. -/
import Derived.Test.YtojgiienohpaiaaMgCycleGreat7
import Derived.Test.YtojgiienohpaiaaMgCycleGreat3
import Derived.Test.YtojgiienohpaiaaMgCycleGreat4
import Derived.Deep.DeepCutAuto
import Derived.Deep.RegionWith
import Derived.Lib.SliceRun
/- Variables: the plain facts; an append of numbers; the answer's Vars. -/
namespace Go.Proofs.Ytojgiienohpaiaa
open Go.RowKit Go.Shelf
attribute [local go_sem ↓] builtin_app
theorem intInfo : (Try.prog.info? 3).map (fun i => (i.zero, i.size, i.bytes)) = some (some (.int .i64 0), 1, 8) := by kernel_rfl
def ints (L : List Int) : List Value := L.map (Value.int .i64)
theorem ints_len (L : List Int) : (ints L).length = L.length := by simp [ints]
theorem ints_app (a b : List Int) : ints (a ++ b) = ints a ++ ints b := by simp [ints]
theorem ints_one (L : List Int) : ∀ u ∈ ints L, u.oneCell' = true := by
  intro u hu
  obtain ⟨x, _, rfl⟩ := List.mem_map.1 hu
  rfl
/-- An append of numbers. -/
theorem app_int (W : World) (base : Nat) (v : Value) (L : List Int) (own : W.ownsRow base 3 1 v L.length (ints L)) (vx : Value) (L2 : List Int) (rd : Rd W 1 vx L2.length (ints L2)) (hl : L.length + L2.length ≤ 100000000) (hbase : base ≤ W.heap.size) :
    ∃ v' W', (app_ #[43, 43] 43 #[v, vx]).run Try.prog W = .ok v' W' ∧ W'.ownsRow base 3 1 v' (L ++ L2).length (ints (L ++ L2)) ∧ Below base W W' ∧ KeepT 28 W W' ∧ W.grownBy W' v.ownBlock ∧ (v'.ownBlock = v.ownBlock ∨ v'.ownBlock = some W.heap.size) := by
  obtain ⟨i0, hi0, hz0, hz1, hz2⟩ := info_parts intInfo
  obtain ⟨v1, w1, hrun, hown, hg, hat⟩ := run_append_rd (P := Try.prog) W base 43 43 3 i0 _ 1 8 Try.underlying43 hi0 hz0 hz1 hz2 rfl (by omega) v _ _ own vx _ _ rd (ints_one _) (by unfold maxLen; omega) (by omega) hbase
  refine ⟨v1, w1, hrun, ?_, (Below.refl _ _).grown hg hbase (fun k e => (own.lt k e).1), KeepT.grown hg (row_not own (by decide)), hg, hat⟩
  rw [List.length_append, ints_app]
  exact hown
/-- One type's variable, behind others. -/
def addV (l : List Int) (x : Tr) : List Int := if x.1 = 1 ∧ ¬ x.2.1 ∈ l then l ++ [x.2.1] else l
def varsL (l : List Int) (L : List Tr) : List Int := L.foldl addV l
theorem varsL_len (L : List Tr) (l : List Int) : (varsL l L).length ≤ l.length + L.length := by
  induction L generalizing l with
  | nil => simp [varsL]
  | cons x r ih =>
    have h := ih (addV l x)
    have h2 : (addV l x).length ≤ l.length + 1 := by unfold addV; split <;> simp
    simp only [varsL, List.foldl_cons, List.length_cons] at h ⊢
    omega
theorem varsL_app (l : List Int) (a b : List Tr) : varsL l (a ++ b) = varsL (varsL l a) b := by simp [varsL]
/-- A list of numbers, at a value. -/
def IsInts (L : List Int) (w : World) (e : Ending) (w' : World) : Prop := ∃ v, e = .returned v ∧ Rd w' 1 v L.length (ints L) ∧ Below w.heap.size w w'
theorem Rd.form {w : World} {size : Nat} {v : Value} {n : Nat} {xs : List Value} (h : Rd w size v n xs) : ∃ A c, v = .slice A n c := by
  rcases h.2 with ⟨h0, A, c, h⟩ | ⟨b, off, cap, h, _⟩
  · exact ⟨A, c, by rw [h, h0]⟩
  · exact ⟨_, cap, h⟩
end Go.Proofs.Ytojgiienohpaiaa
/- A graph in memory. -/
namespace Go.Proofs.Ytojgiienohpaiaa
open Go.RowKit Go.Shelf Go.Maps Go.WideShapes
/-- A node as it lies: its kind, its name, its size, its parts' slice. -/
abbrev Nd := Int × Int × Int × Sl
def ndC (x : Nd) : List Value := [.int .i64 x.1, .int .i64 x.2.1, .int .i64 x.2.2.1, slv x.2.2.2]
def toI (P : List Nat) : List Int := P.map fun p : Nat => (p : Int)
theorem toI_len (P : List Nat) : (toI P).length = P.length := by simp [toI]
def nums (P : List Nat) : List Value := ints (toI P)
theorem nums_len (P : List Nat) : (nums P).length = P.length := by simp [nums, ints_len, toI_len]
/-- A node reads so; its parts lie in cells of numbers, from B on. -/
def NdR (B : Nat) (w : World) (x : Nd) (y : Gn) : Prop := x.1 = y.1 ∧ x.2.1 = y.2.1 ∧ x.2.2.1 = (y.2.2.1 : Int) ∧ w.ownsRow B 3 1 (slv x.2.2.2) y.2.2.2.length (nums y.2.2.2)
def NdL (B : Nat) (w : World) : List Nd → List Gn → Prop
  | [], [] => True
  | x :: L, y :: G => NdR B w x y ∧ NdL B w L G
  | _, _ => False
theorem NdL.len {B : Nat} {w : World} {L : List Nd} {G : List Gn} (h : NdL B w L G) : L.length = G.length := by
  induction L generalizing G with
  | nil => cases G with
    | nil => rfl
    | cons => exact h.elim
  | cons x L ih => cases G with
    | nil => exact h.elim
    | cons y G => simp [ih h.2]
theorem NdL.snoc {B : Nat} {w : World} {L : List Nd} {G : List Gn} {x : Nd} {y : Gn} (h : NdL B w L G) (hx : NdR B w x y) : NdL B w (L ++ [x]) (G ++ [y]) := by
  induction L generalizing G with
  | nil => cases G with
    | nil => exact ⟨hx, trivial⟩
    | cons => exact h.elim
  | cons z L ih => cases G with
    | nil => exact h.elim
    | cons y G => exact ⟨h.1, ih h.2⟩
theorem NdL.at {B : Nat} {w : World} {L : List Nd} {G : List Gn} (h : NdL B w L G) (i : Nat) (hi : i < L.length) (hj : i < G.length) : NdR B w L[i] G[i] := by
  induction L generalizing G i with
  | nil => simp at hi
  | cons z L ih => cases G with
    | nil => exact h.elim
    | cons y G =>
      cases i with
      | zero => exact h.1
      | succ i => exact ih h.2 i (by simpa using hi) (by simpa using hj)
/-- What keeps the cells of numbers keeps the parts. -/
theorem NdL.to {B : Nat} {w w' : World} {L : List Nd} {G : List Gn} (h : NdL B w L G) (hk : ∀ (b : Nat) (cs : Array Value), B ≤ b → w.heap[b]? = some (Obj.cells cs 3) → w'.heap[b]? = some (Obj.cells cs 3)) : NdL B w' L G := by
  induction L generalizing G with
  | nil => cases G with
    | nil => trivial
    | cons => exact h.elim
  | cons x L ih => cases G with
    | nil => exact h.elim
    | cons y G =>
      obtain ⟨⟨h1, h2, h3, h4⟩, h5⟩ := h
      refine ⟨⟨h1, h2, h3, h4.1, ?_⟩, ih h5⟩
      rcases h4.2 with h | ⟨g, cap, cur, hv, hb, hg, hr⟩
      · exact .inl h
      · exact .inr ⟨g, cap, cur, hv, hb, hk _ _ hb hg, hr⟩
/-- The graph: its block, its nodes' slice, its map. -/
structure GrM (B : Nat) (w : World) (g : Nat) (v : Value) (mb : Nat) (L : List Nd) (G : List Gn) : Prop where
  cell : w.heap[g]? = some (Obj.cells #[v, .map (some mb)] 88)
  row : w.ownsRow B 112 4 v L.length (L.flatMap ndC)
  nodes : NdL B w L G
  vars : ∃ S, MapF (gvf G) S G.length mb w
  ge : B ≤ g ∧ B ≤ mb
theorem GrM.lt {B : Nat} {w : World} {g : Nat} {v : Value} {mb : Nat} {L : List Nd} {G : List Gn} (h : GrM B w g v mb L G) : g < w.heap.size ∧ mb < w.heap.size :=
  ⟨(Array.getElem?_eq_some_iff.1 h.cell).1, by obtain ⟨_, hm⟩ := h.vars; exact hm.lt⟩
/-- It stands as long as its blocks do. -/
theorem GrM.to {B : Nat} {w w' : World} {g : Nat} {v : Value} {mb : Nat} {L : List Nd} {G : List Gn} (h : GrM B w g v mb L G)
    (hg : w'.heap[g]? = w.heap[g]?) (hm : w'.heap[mb]? = w.heap[mb]?) (hr : ∀ b, v.ownBlock = some b → w'.heap[b]? = w.heap[b]?)
    (hk : ∀ (b : Nat) (cs : Array Value), B ≤ b → w.heap[b]? = some (Obj.cells cs 3) → w'.heap[b]? = some (Obj.cells cs 3)) : GrM B w' g v mb L G := by
  refine ⟨hg.trans h.cell, ⟨h.row.1, ?_⟩, h.nodes.to hk, ?_, h.ge⟩
  · rcases h.row.2 with h2 | ⟨b, cap, cur, hv, hb, hh, hr2⟩
    · exact .inl h2
    · exact .inr ⟨b, cap, cur, hv, hb, (hr b (by rw [hv]; rfl)).trans hh, hr2⟩
  · obtain ⟨S, hv⟩ := h.vars
    exact ⟨S, hv.block hm⟩
theorem GrM.below {B : Nat} {w w' : World} {g : Nat} {v : Value} {mb : Nat} {L : List Nd} {G : List Gn} (h : GrM B w g v mb L G) (hb : Below w.heap.size w w') : GrM B w' g v mb L G :=
  h.to (hb.block _ h.lt.1) (hb.block _ h.lt.2) (fun b e => hb.block _ (h.row.lt b e).2) fun b _ _ hc => (hb.block b (Array.getElem?_eq_some_iff.1 hc).1).trans hc
set_option maxRecDepth 100000 in
set_option maxHeartbeats 1000000 in
/-- graph.New. -/
theorem new_graph (w : World) : Calls Try.prog 19 #[] w fun e w' => ∃ g mb, e = .returned (.pointer (some ⟨g, 0, none⟩)) ∧ GrM w.heap.size w' g (.slice none 0 0) mb [] [] ∧ Below w.heap.size w w' := by
  have hmm := @run_makeMap Try.prog
  go_enter Try.func19, Try.ntmps19
  go_wp2_with fail
  refine bodyPost_ret (results_tmp rfl _ _ _) rfl ?_
  have hb1 : Below w.heap.size w (w.alloc (Obj.map #[] 0)) := (Below.refl _ _).alloc (Nat.le_refl _) _
  refine ⟨_, _, rfl, ⟨?_, World.ownsRow_nil _ _ _ _, trivial, ⟨0, ?_⟩, ⟨by omega, Nat.le_refl _⟩⟩, hb1.alloc (by simp) _⟩
  · have := heap_alloc_new (w.alloc (Obj.map #[] 0)) (Obj.cells #[.slice none 0 0, .map (some w.heap.size)] 88)
    rwa [World.size_alloc] at this
  · exact (MapF.made w).kept (World.grownBy_alloc _ _ none) (by simp)
end Go.Proofs.Ytojgiienohpaiaa
/- slices.Clone at numbers. -/
namespace Go.Proofs.Ytojgiienohpaiaa
open Go.RowKit Go.Shelf
attribute [local go_sem ↓] builtin_app
set_option maxRecDepth 100000 in
set_option maxHeartbeats 1000000 in
theorem clone_ints (w : World) (v : Value) (L : List Int) (hR : Rd w 1 v L.length (ints L)) (hl : L.length ≤ 10000000) :
    Calls Try.prog 66 #[v] w fun e w' => ∃ v', e = .returned v' ∧ w'.ownsRow w.heap.size 3 1 v' L.length (ints L) ∧ Below w.heap.size w w' := by
  obtain ⟨A, c, rfl⟩ := hR.form
  have hnil := fun (w : World) (a : Option Addr) (n c n' c' : Nat) => Lib.run_eql_slice_nil (P := Try.prog) w 43 3 a n c n' c' Try.underlying43
  cases A with
  | none =>
    have h0 : L.length = 0 := by
      rcases hR.2 with ⟨h, _⟩ | ⟨_, _, _, h, _⟩
      · exact h
      · cases h
    have hL : L = [] := List.eq_nil_of_length_eq_zero h0
    subst hL
    go_enter Try.func66, Try.ntmps66
    go_wp2_with fail
    exact bodyPost_ret (results_tmp rfl _ _ _) rfl ⟨_, rfl, World.ownsRow_nil _ _ _ _, Below.refl _ _⟩
  | some a =>
    obtain ⟨w1, hw1⟩ : ∃ w1, w.alloc (.cells #[] 3) = w1 := ⟨_, rfl⟩
    have hb1 : Below w.heap.size w w1 := by rw [← hw1]; exact (Below.refl _ _).alloc (Nat.le_refl _) _
    have hs1 : w1.heap.size = w.heap.size + 1 := by rw [← hw1]; simp
    have h1 : w1.heap[w.heap.size]? = some (.cells #[] 3) := by rw [← hw1]; exact heap_alloc_new _ _
    have own0 : w1.ownsRow w.heap.size 3 1 (.slice (some ⟨w.heap.size, 0, none⟩) 0 0) ([] : List Int).length (ints []) := ⟨rfl, .inr ⟨w.heap.size, 0, _, rfl, Nat.le_refl _, h1, Nat.le_refl _, by unfold maxLen; omega, by simp, by simp [ints]⟩⟩
    obtain ⟨v2, w2, run2, own2, b2, _, _, _⟩ := app_int w1 w.heap.size _ [] own0 _ L (hR.below hb1) (by simp; omega) (by omega)
    rw [List.nil_append] at own2
    have H2 := Lib.hid (And.intro own2 (hb1.trans b2))
    clear hR hb1 hs1 h1 own0 own2 b2
    go_enter Try.func66, Try.ntmps66
    go_wp2_with fail
    exact bodyPost_ret (results_tmp rfl _ _ _) rfl ⟨v2, rfl, H2.out⟩
end Go.Proofs.Ytojgiienohpaiaa
/- What is asked of a graph that is there, or isn't: Len, has, Kind. -/
namespace Go.Proofs.Ytojgiienohpaiaa
open Go.RowKit Go.Shelf
set_option maxRecDepth 100000
theorem results_tmp2 {fn : Func} {p q : Tmp} (h : fn.results = #[.tmp p, .tmp q]) (tmps : Array Value) (P : Program) (w : World) : (results fn tmps).run P w = .ok (.tuple #[tmps.getD p undef, tmps.getD q undef]) w := by
  simp [results, h]
theorem results_cell_tmp {P : Program} {fn : Func} {p q : Tmp} {ty : TypeId} (h : fn.results = #[.cell p ty, .tmp q]) (tmps : Array Value) (w : World) (g : Nat) (v : Value)
    (hp : tmps.getD p undef = .pointer (some ⟨g, 0, none⟩)) (hl : (loadVar ty ⟨g, 0, none⟩).run P w = .ok v w) : (results fn tmps).run P w = .ok (.tuple #[v, tmps.getD q undef]) w := by
  have hp' : tmps[p]?.getD undef = .pointer (some ⟨g, 0, none⟩) := by simpa using hp
  simp [results, h, hp', asAddr, hl]
theorem len_none (w : World) : Calls Try.prog 45 #[.pointer none] w fun e w' => e = .returned (.int .i64 0) ∧ w' = w := by
  go_enter Try.func45, Try.ntmps45
  go_wp2_with fail
  exact bodyPost_ret (results_tmp rfl _ _ _) rfl ⟨rfl, rfl⟩
theorem len_graph (w : World) (B g mb : Nat) (v : Value) (L : List Nd) (G : List Gn) (hG : GrM B w g v mb L G) : Calls Try.prog 45 #[.pointer (some ⟨g, 0, none⟩)] w fun e w' => e = .returned (.int .i64 (G.length : Nat)) ∧ w' = w := by
  obtain ⟨A, c, rfl, _, _⟩ := own_form hG.row
  have g0 : w.cell? ⟨g, 0, none⟩ = some (.slice A L.length c) := cell_of_row w _ 0 _ _ (0, 0) hG.cell
  have hl := hG.nodes.len
  have HL := Lib.hid hl
  clear hl hG
  go_enter Try.func45, Try.ntmps45
  go_wp2_with fail
  exact bodyPost_ret (results_tmp rfl _ _ _) rfl ⟨by rw [← HL.out]; rfl, rfl⟩
theorem has_none (w : World) (i : Int) : Calls Try.prog 67 #[.pointer none, .int .i64 i] w fun e w' => e = .returned (.bool false) ∧ Below w.heap.size w w' := by
  by_cases h : 0 ≤ i
  · have f1 : decide ((0 : Int) ≤ i) = true := by simpa using h
    have f2 : decide (i < (0 : Int)) = false := by simpa using h
    go_enter Try.func67, Try.ntmps67
    go_wp2_with (go_at_call 45; refine (len_none _).mono ?_; rintro e w' ⟨rfl, rfl⟩)
    exact bodyPost_ret (results_tmp rfl _ _ _) rfl ⟨rfl, Below.refl _ _⟩
  · have f1 : decide ((0 : Int) ≤ i) = false := by simpa using h
    go_enter Try.func67, Try.ntmps67
    go_wp2_with fail
    exact bodyPost_ret (results_tmp rfl _ _ _) rfl ⟨rfl, Below.refl _ _⟩
theorem kind_none (w : World) (i : Int) : Calls Try.prog 46 #[.pointer none, .int .i64 i] w fun e w' => e = .returned (.int .i64 0) ∧ Below w.heap.size w w' := by
  go_enter Try.func46, Try.ntmps46
  go_wp2_with fail
  refine (has_none _ i).mono ?_
  rintro e w' ⟨rfl, hb⟩
  go_wp2_with fail
  exact bodyPost_ret (results_tmp rfl _ _ _) rfl ⟨rfl, hb⟩
theorem parts_none (w : World) (i : Int) : Calls Try.prog 52 #[.pointer none, .int .i64 i] w fun e w' => e = .returned (.slice none 0 0) ∧ Below w.heap.size w w' := by
  go_enter Try.func52, Try.ntmps52
  go_wp2_with fail
  refine (has_none _ i).mono ?_
  rintro e w' ⟨rfl, hb⟩
  go_wp2_with fail
  exact bodyPost_ret (results_tmp rfl _ _ _) rfl ⟨rfl, hb⟩
theorem var_none (w : World) (n : Int) : Calls Try.prog 78 #[.pointer none, .int .i64 n] w fun e w' => e = .returned (.tuple #[.int .i64 0, .bool false]) ∧ Below w.heap.size w w' := by
  go_enter Try.func78, Try.ntmps78
  go_wp2_with fail
  exact bodyPost_ret (results_tmp2 rfl _ _ _) rfl ⟨rfl, Below.refl _ _⟩
theorem vars_none (w : World) : Calls Try.prog 60 #[.pointer none] w fun e w' => e = .returned (.slice none 0 0) ∧ Below w.heap.size w w' := by
  go_enter Try.func60, Try.ntmps60
  go_wp2_with fail
  exact bodyPost_ret (results_tmp rfl _ _ _) rfl ⟨rfl, Below.refl _ _⟩
theorem name_none (w : World) (i : Int) : Calls Try.prog 80 #[.pointer none, .int .i64 i] w fun e w' => e = .returned (.tuple #[.int .i64 0, .bool false]) ∧ Below w.heap.size w w' := by
  go_enter Try.func80, Try.ntmps80
  go_wp2_with fail
  refine (kind_none _ i).mono ?_
  rintro e w' ⟨rfl, hb⟩
  go_wp2_with fail
  exact bodyPost_ret (results_tmp2 rfl _ _ _) rfl ⟨rfl, hb⟩
theorem add_none (w : World) (k n : Int) (u : Sl) : Calls Try.prog 22 #[.pointer none, tyVal k n (slv u)] w fun e w' => e = .returned (.tuple #[.int .i64 0, .int .i64 10]) ∧ Below w.heap.size w w' := by
  obtain ⟨u1, u2, u3⟩ := u
  dsimp only [tyVal, slv]
  go_enter Try.func22, Try.ntmps22
  go_wp2_with fail
  exact bodyPost_ret (results_tmp2 rfl _ _ _) rfl ⟨rfl, ((Below.refl _ _).alloc (Nat.le_refl _) _).alloc (by simp) _⟩
end Go.Proofs.Ytojgiienohpaiaa
