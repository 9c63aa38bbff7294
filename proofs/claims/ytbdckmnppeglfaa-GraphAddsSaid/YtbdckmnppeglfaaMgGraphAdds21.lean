/- Texts of one proof, one behind the other. -/
import Derived.Test.YtbdckmnppeglfaaMgGraphAdds20
import Derived.Test.YtbdckmnppeglfaaMgGraphAdds16
import Derived.Test.YtbdckmnppeglfaaMgGraphAdds18
/- What stands while a type is added: the graph, and the parts that have no type yet. -/
namespace Go.Proofs.Ytbdckmnppeglfaa
open Go.RowKit Go.Shelf
set_option maxRecDepth 100000
/-- No node's parts lie in that row. -/
def NoP (r : Option Nat) (L : List Nd) : Prop := ∀ x ∈ L, ∀ b, (slv x.2.2.2).ownBlock = some b → r ≠ some b
theorem NdL.to2 {B : Nat} {w w' : World} {L : List Nd} {G : List Gn} (r : Option Nat) (h : NdL B w L G) (hr : NoP r L) (hk : ∀ (b : Nat) (cs : Array Value), B ≤ b → r ≠ some b → w.heap[b]? = some (Obj.cells cs 3) → w'.heap[b]? = some (Obj.cells cs 3)) : NdL B w' L G := by
  induction L generalizing G with
  | nil => cases G with
    | nil => trivial
    | cons => exact h.elim
  | cons x L ih => cases G with
    | nil => exact h.elim
    | cons y G =>
      obtain ⟨⟨h1, h2, h3, h4⟩, h5⟩ := h
      refine ⟨⟨h1, h2, h3, h4.1, ?_⟩, ih h5 fun z hz => hr z (List.mem_cons_of_mem _ hz)⟩
      rcases h4.2 with h | ⟨g, cap, cur, hv, hb, hg, hq⟩
      · exact .inl h
      · exact .inr ⟨g, cap, cur, hv, hb, hk _ _ hb (hr x List.mem_cons_self g (by rw [hv]; rfl)) hg, hq⟩
theorem GrM.to2 {B : Nat} {w w' : World} {g : Nat} {v : Value} {mb : Nat} {L : List Nd} {G : List Gn} (h : GrM B w g v mb L G) (r : Option Nat) (hr : NoP r L)
    (hg : w'.heap[g]? = w.heap[g]?) (hm : w'.heap[mb]? = w.heap[mb]?) (hv : ∀ b, v.ownBlock = some b → w'.heap[b]? = w.heap[b]?)
    (hk : ∀ (b : Nat) (cs : Array Value), B ≤ b → r ≠ some b → w.heap[b]? = some (Obj.cells cs 3) → w'.heap[b]? = some (Obj.cells cs 3)) : GrM B w' g v mb L G := by
  refine ⟨hg.trans h.cell, ⟨h.row.1, ?_⟩, h.nodes.to2 r hr hk, ?_, h.ge⟩
  · rcases h.row.2 with h2 | ⟨b, cap, cur, hv2, hb, hh, hr2⟩
    · exact .inl h2
    · exact .inr ⟨b, cap, cur, hv2, hb, (hv b (by rw [hv2]; rfl)).trans hh, hr2⟩
  · obtain ⟨S, hv⟩ := h.vars
    exact ⟨S, hv.block hm⟩
theorem NdL.lt_own {B : Nat} {w : World} {L : List Nd} {G : List Gn} (h : NdL B w L G) : ∀ x ∈ L, ∀ b, (slv x.2.2.2).ownBlock = some b → b < w.heap.size ∧ ∃ cs, w.heap[b]? = some (Obj.cells cs 3) := by
  induction L generalizing G with
  | nil => intro x hx; cases hx
  | cons y L ih => cases G with
    | nil => exact h.elim
    | cons z G =>
      obtain ⟨⟨_, _, _, h4⟩, h5⟩ := h
      intro x hx b hb
      rcases List.mem_cons.1 hx with rfl | hx
      · rcases h4.2 with ⟨h, _⟩ | ⟨g, cap, cur, hv, _, hg, _⟩
        · rw [h] at hb; cases hb
        · rw [hv] at hb
          injection hb with hb
          subst hb
          exact ⟨(Array.getElem?_eq_some_iff.1 hg).1, _, hg⟩
      · exact ih h5 x hx b hb
/-- What turned since, beside the graph's own blocks and the row: nothing that lay in w. -/
structure Sin (w W : World) (g mb tb : Nat) (v0 v : Value) : Prop where
  os : W.os = w.os
  tape : W.tape = w.tape
  output : W.output = w.output
  size : w.heap.size ≤ W.heap.size
  block : ∀ b, b < w.heap.size → b ≠ g → b ≠ mb → b ≠ tb → v0.ownBlock ≠ some b → W.heap[b]? = w.heap[b]?
  at_ : v.ownBlock = v0.ownBlock ∨ ∃ b, v.ownBlock = some b ∧ w.heap.size ≤ b
/-- Between two visits: H is the world's size where they began, M where the iterator's own cells begin. -/
def AddI (w : World) (B g mb tb : Nat) (v0 : Value) (L0 : List Nd) (G0 : List Gn) (M : Nat) (pre : List Tr) (W : World) : Prop :=
  ∃ (v mv : Value) (E : List Nd), GrM B W g v mb (L0 ++ E) (pre.foldl gstep (G0, [])).1 ∧ W.heap[tb]? = some (.cells #[mv] 28) ∧
    W.ownsRow M 3 1 mv (pre.foldl gstep (G0, [])).2.length (nums (pre.foldl gstep (G0, [])).2) ∧ NoP mv.ownBlock (L0 ++ E) ∧
    (∀ b, v.ownBlock = some b → b < w.heap.size ∨ M ≤ b) ∧ (∀ x ∈ E, ∀ b, (slv x.2.2.2).ownBlock = some b → w.heap.size ≤ b) ∧ Sin w W g mb tb v0 v
/-- A block that lies there, and isn't the iterator's. -/
theorem Its.keep {M : Nat} {W W' : World} (h : Its M W W') {b : Nat} {o : Obj} (ho : W.heap[b]? = some o) (hb : b < M ∨ (o.isCells = true ∧ ∀ cs, o ≠ .cells cs 129)) : W'.heap[b]? = some o := by
  obtain ⟨row, hg, hr⟩ := h
  rw [hg.block b (Array.getElem?_eq_some_iff.1 ho).1 ?_, ho]
  intro e
  obtain ⟨h1, o', h2, h3⟩ := hr b e.symm
  rw [ho] at h2
  cases h2
  rcases hb with hb | ⟨hb, hc⟩
  · omega
  · rcases h3 with h3 | ⟨cs, h3⟩
    · rw [hb] at h3; cases h3
    · exact hc cs h3
theorem Its.size {M : Nat} {W W' : World} (h : Its M W W') : W.heap.size ≤ W'.heap.size := by obtain ⟨row, hg, hr⟩ := h; exact hg.size
theorem AddI.its {w : World} {B g mb tb : Nat} {v0 : Value} {L0 : List Nd} {G0 : List Gn} (hmb : mb < w.heap.size) {M : Nat} {pre : List Tr} {W W' : World} (hM : w.heap.size ≤ M) (h : AddI w B g mb tb v0 L0 G0 M pre W) (hi : Its M W W') : AddI w B g mb tb v0 L0 G0 M pre W' := by
  obtain ⟨v, mv, E, hG, htb, hmv, hno, hvb, hE, hS⟩ := h
  have k1 := hi.keep hG.cell (.inr ⟨rfl, fun cs e => by injection e with _ e; revert e; decide⟩)
  have k2 := hi.keep htb (.inr ⟨rfl, fun cs e => by injection e with _ e; revert e; decide⟩)
  have kc : ∀ (b : Nat) (cs : Array Value) (t : TypeId), t ≠ 129 → W.heap[b]? = some (Obj.cells cs t) → W'.heap[b]? = some (Obj.cells cs t) := fun b cs t ht hb => hi.keep hb (.inr ⟨rfl, fun cs e => by injection e with _ e; exact ht e⟩)
  have km : W'.heap[mb]? = W.heap[mb]? := by
    have := hG.lt.2
    have h2 : W.heap[mb]? = some W.heap[mb] := Array.getElem?_eq_getElem this
    rw [hi.keep h2 (.inl (by omega)), h2]
  refine ⟨v, mv, E, hG.to (k1.trans hG.cell.symm) km (fun b hb => ?_) (fun b cs _ hb => kc b cs _ (by decide) hb), k2, ⟨hmv.1, ?_⟩, hno, hvb, hE, ⟨?_, ?_, ?_, Nat.le_trans hS.size hi.size, fun b hb h1 h2 h3 h4 => ?_, hS.at_⟩⟩
  · rcases hG.row.2 with ⟨h, _⟩ | ⟨b', cap, cur, hv, _, hh, _⟩
    · rw [h] at hb; cases hb
    · rw [hv] at hb
      injection hb with hb
      subst hb
      exact (kc _ _ _ (by decide) hh).trans hh.symm
  · rcases hmv.2 with h | ⟨b', cap, cur, hv, hb, hh, hr⟩
    · exact .inl h
    · exact .inr ⟨b', cap, cur, hv, hb, kc _ _ _ (by decide) hh, hr⟩
  · obtain ⟨_, hg, _⟩ := hi; exact hg.os.trans hS.os
  · obtain ⟨_, hg, _⟩ := hi; exact hg.tape.trans hS.tape
  · obtain ⟨_, hg, _⟩ := hi; exact hg.output.trans hS.output
  · have h5 := hS.block b hb h1 h2 h3 h4
    have h6 : w.heap[b]? = some w.heap[b] := Array.getElem?_eq_getElem hb
    rw [h6] at h5 ⊢
    exact hi.keep h5 (.inl (by omega))
end Go.Proofs.Ytbdckmnppeglfaa
