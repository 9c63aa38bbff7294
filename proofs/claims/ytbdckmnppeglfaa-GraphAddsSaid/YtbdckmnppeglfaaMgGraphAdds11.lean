/- Texts of one proof, one behind the other. -/
import Derived.Test.YtbdckmnppeglfaaMgGraphAdds10
/- types.Arrow. -/
namespace Go.Proofs.Ytbdckmnppeglfaa
open Go.RowKit Go.Shelf
attribute [local go_sem] Oper.semAt_some

/-- Three cells, stored. -/
theorem set3 {T : TypeId} {w : World} (g : Nat) (x y z k n u : Value) (hg : w.heap[g]? = some (Obj.cells #[x, y, z] T)) :
    w.cell? ⟨g, 0, none⟩ = some x ∧ w.cell? ⟨g, 1, none⟩ = some y ∧ w.cell? ⟨g, 2, none⟩ = some z ∧ w.frozen? ⟨g, 0, none⟩ = false ∧ w.frozen? ⟨g, 1, none⟩ = false ∧ w.frozen? ⟨g, 2, none⟩ = false ∧
    ∃ w', ((w.setCell ⟨g, 0, none⟩ k).setCell ⟨g, 1, none⟩ n).setCell ⟨g, 2, none⟩ u = w' ∧ w'.heap[g]? = some (Obj.cells #[k, n, u] T) ∧ w'.heap.size = w.heap.size ∧ (∀ b, b ≠ g → w'.heap[b]? = w.heap[b]?) ∧ Below g w w' := by
  refine ⟨cell_of_row w g 0 _ _ (0, 0) hg, cell_of_row w g 1 _ _ (0, 0) hg, cell_of_row w g 2 _ _ (0, 0) hg, frozen_cells hg 0, frozen_cells hg 1, frozen_cells hg 2, _, rfl, ?_, by simp [World.setCell], fun b hne => ?_, ?_⟩
  · exact heap_setCell_same _ g 2 _ T u (heap_setCell_same _ g 1 _ T n (heap_setCell_same w g 0 _ T k hg))
  · rw [Below.heap_setCell _ _ _ _ (by simpa using hne), Below.heap_setCell _ _ _ _ (by simpa using hne), Below.heap_setCell _ _ _ _ (by simpa using hne)]
  · exact (((Below.refl g w).setCell (p := ⟨g, 0, none⟩) (Nat.le_refl g) _).setCell (p := ⟨g, 1, none⟩) (Nat.le_refl g) _).setCell (p := ⟨g, 2, none⟩) (Nat.le_refl g) _
/-- What stands between the rounds. -/
def ArInv (w : World) (vl : Value) (f : Fo) (j : Nat) (W : World) : Prop :=
  (∃ u : Sl, W.heap[w.heap.size + 2]? = some (Obj.cells #[.int .i64 (f.drop (f.len - j)).arrF.1, .int .i64 (f.drop (f.len - j)).arrF.2.1, slv u] 38) ∧ FreshT 38 (w.heap.size + 3) W idn (f.drop (f.len - j)).arrF.2.2 u) ∧
    Boxed W w.heap.size 22 vl ∧ W.heap[w.heap.size + 1]? = some (Obj.cells rt0 38) ∧ Below w.heap.size w W
theorem ArInv.kept {w : World} {vl : Value} {f : Fo} {j : Nat} {W W' : World} (h : ArInv w vl f j W) (hs : W.heap.size ≤ W'.heap.size) (hk : ∀ (b : Nat) (cs : Array Value) (t : TypeId), t ≠ 129 → W.heap[b]? = some (Obj.cells cs t) → W'.heap[b]? = some (Obj.cells cs t)) (hb : Below w.heap.size w W') : ArInv w vl f j W' := by
  obtain ⟨⟨u, hu, hf⟩, hx, hr, _⟩ := h
  exact ⟨⟨u, hk _ _ _ (by decide) hu, hf.to hs fun b cs _ hc => hk _ _ _ (by decide) hc⟩, hk _ _ _ (by decide) hx, hk _ _ _ (by decide) hr, hb⟩
theorem ArInv.own {w : World} {vl : Value} {f : Fo} (B : Nat) (hB : w.heap.size ≤ B) : OwnFrom B (fun (pre : List (Int × Tr)) W => ArInv w vl f pre.length W) := by
  intro s W W' row hs hg hr
  have hb : Below w.heap.size w W' := ⟨hg.os.trans hs.2.2.2.os, hg.tape.trans hs.2.2.2.tape, hg.output.trans hs.2.2.2.output, Nat.le_trans hs.2.2.2.size hg.size, fun k hk => (hg.block k (Nat.lt_of_lt_of_le hk hs.2.2.2.size) (fun e => by have := (hr k e.symm).1; omega)).trans (hs.2.2.2.block k hk)⟩
  refine hs.kept hg.size (fun b cs t _ hc => (hg.block b (Array.getElem?_eq_some_iff.1 hc).1 fun e => ?_).trans hc) hb
  obtain ⟨o, ho, hoc⟩ := (hr b e.symm).2
  rw [hc] at ho
  cases ho
  cases hoc
theorem ArInv.ab {w : World} {vl : Value} {f : Fo} (B : Nat) (hB : w.heap.size ≤ B) : AbC B 129 (fun (pre : List (Int × Tr)) W => ArInv w vl f pre.length W) := by
  intro s W W' hs hc
  have hb : Below w.heap.size w W' := hs.2.2.2.trans (hc.below hB hs.2.2.2.size)
  obtain ⟨row, hg, hr⟩ := hc
  refine hs.kept hg.size (fun b cs t hne hcc => (hg.block b (Array.getElem?_eq_some_iff.1 hcc).1 fun e => ?_).trans hcc) hb
  obtain ⟨_, cs', hc'⟩ := hr b e.symm
  rw [hcc] at hc'
  cases hc'
  exact hne rfl
/-- A round, put together. -/
theorem ar_fin {w : World} {vl : Value} {f : Fo} {pre : List (Int × Tr)} {x : Int × Tr} {W W3 W4 : World} {k n : Int} {u : Sl} {o : Array Value} (hi : ArInv w vl f pre.length W) (h3 : Below W.heap.size W W3) (h4 : W4.heap[w.heap.size + 2]? = some (Obj.cells #[.int .i64 k, .int .i64 n, slv u] 38)) (hs : W4.heap.size = W3.heap.size) (hfar : ∀ b, b ≠ w.heap.size + 2 → W4.heap[b]? = W3.heap[b]?) (hb4 : Below (w.heap.size + 2) W3 W4)
    (hk : k = (f.drop (f.len - (pre.length + 1))).arrF.1) (hn : n = (f.drop (f.len - (pre.length + 1))).arrF.2.1) (hf : FreshT 38 (w.heap.size + 3) W3 idn (f.drop (f.len - (pre.length + 1))).arrF.2.2 u)
    (_hW0 : W.heap[w.heap.size + 3]? = some (Obj.cells o 22)) (B0 : Nat) (hB0 : w.heap.size + 4 ≤ B0) (hBW : B0 ≤ W.heap.size) :
    KeepsFrom B0 W W4 ∧ KpB w.heap.size (w.heap.size + 3) W W4 ∧ ArInv w vl f (pre ++ [x]).length W4 := by
  have hz := h3.size
  have all : ∀ b, b < W.heap.size → b ≠ w.heap.size + 2 → W4.heap[b]? = W.heap[b]? := fun b hb hne => (hfar b hne).trans (h3.block b hb)
  have hbl : Below w.heap.size w W4 := (hi.2.2.2.trans (h3.mono (by omega))).trans (hb4.mono (by omega))
  refine ⟨⟨by omega, fun b o' hb ho _ => (all b (Array.getElem?_eq_some_iff.1 ho).1 (by omega)).trans ho⟩, ⟨(h3.mono (by omega)).trans (hb4.mono (by omega)), fun o' ho _ => (all _ (Array.getElem?_eq_some_iff.1 ho).1 (by omega)).trans ho⟩, ?_⟩
  rw [List.length_append, List.length_singleton]
  refine ⟨⟨u, by rw [← hk, ← hn]; exact h4, hf.to (by omega) fun b cs hb hc => (hfar b (by omega)).trans hc⟩, (all _ (by omega) (by omega)).trans hi.2.1, (all _ (by omega) (by omega)).trans hi.2.2.1, hbl⟩
end Go.Proofs.Ytbdckmnppeglfaa
