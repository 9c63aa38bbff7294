/- Texts of one proof, one behind the other. -/
import Derived.OrdersHeld
import Derived.Deep.RegionHeld3
import Derived.Below
import Derived.WalkKit
import Derived.Test.YtglmhdlkhnlkiaaMgTermStops4
import Derived.Test.YtglmhdlkhnlkiaaMgTermStops7
/- Regions that hold many calls in a row, two and two beside each other: what each pair leaves is walked once. Nothing here speaks of the program. -/
namespace Go.Proofs.Ytglmhdlkhnlkiaa
open Go.RowKit
variable {P : Program} {ops : Array Oper} {Q : Exit → Act → World → Prop} {md : Region.Mode}

/-- Nothing that stood in W0 has turned. -/
def LS (W0 : World) (w : World) : Prop := Below W0.heap.size W0 w
theorem LS.step {W0 w w' : World} (h : LS W0 w) (hb : Below w.heap.size w w') : LS W0 w' := Below.trans h (hb.mono h.size)
/-- What bears that new blocks are laid. -/
def Bears (V : Value → World → Prop) : Prop := ∀ v w w', V v w → Below w.heap.size w w' → V v w'
theorem bears_eq (u : Value) : Bears (fun v _ => v = u) := fun _ _ _ h _ => h
/-- A call's contract: new blocks alone, and what is known of its value. -/
abbrev Gives (P : Program) (f : FuncId) (args : Array Value) (w : World) (V : Value → World → Prop) : Prop :=
  Calls P f args w fun e w' => ∃ v, e = .returned v ∧ V v w' ∧ Below w.heap.size w w'
theorem gives_of {f : FuncId} {args : Array Value} {w : World} {u : Value} (h : Calls P f args w fun e w' => e = .returned u ∧ Below w.heap.size w w') : Gives P f args w (fun v _ => v = u) := h.mono fun _ _ ⟨h1, h2⟩ => ⟨u, h1, rfl, h2⟩
theorem op_call {W0 : World} {o : Oper} {i : Nat} {f : FuncId} {args : Array Value} {V : Value → World → Prop} {a : Act} {w : World} {K : Act → World → Prop}
    (hi : ops[i]? = some o) (hw : Region.wanted o (yielded ops a.tmps) = true) (he : (execOp a.eval o).run P w = .ok (.enter f args) w) (hS : LS W0 w)
    (hc : Gives P f args w V) (hk : ∀ v w', Below w.heap.size w w' → V v w' → K (a.put o.dst v) w') : wpOp P ops Q i (fun a' w' => LS W0 w' ∧ K a' w') a w := by
  unfold wpOp
  simp only [hi]
  rw [if_pos hw]
  refine .inl ?_
  unfold Oper.wp
  rw [he]
  simp only [Oper.upon]
  refine hc.mono fun e w' ⟨v, hv, hV, hb⟩ => ?_
  subst hv
  exact ⟨hS.step hb, hk v w' hb hV⟩
/-- One call alone may come up. -/
theorem any_one {W0 : World} {i : Nat} {o : Oper} {f : FuncId} {args : Array Value} {V : Value → World → Prop} {fuel : Nat} {listed : Array Bool} {a : Act} {w : World}
    (hi : ops[i]? = some o) (hr : Region.ready md ops listed = [i]) (hw : Region.wanted o (yielded ops a.tmps) = true) (he : (execOp a.eval o).run P w = .ok (.enter f args) w) (hS : LS W0 w)
    (hc : Gives P f args w V) (hk : ∀ v w', Below w.heap.size w w' → LS W0 w' → V v w' → wpAnyH P md ops Q (LS W0) fuel (listed.setIfInBounds i true) (a.put o.dst v) w') : wpAnyH P md ops Q (LS W0) (fuel + 1) listed a w := by
  refine wpAnyH_all hr (by simp) fun j hj => ?_
  obtain rfl : j = i := by simpa using hj
  exact op_call hi hw he hS hc fun v w' hb hV => hk v w' hb (hS.step hb) hV
/-- Two calls may come up, in either order. -/
theorem any_two {W0 : World} {i j : Nat} {oi oj : Oper} {fi fj : FuncId} {ai aj : Array Value} {Vi Vj : Value → World → Prop} {fuel : Nat} {listed : Array Bool} {a : Act} {w : World}
    (hi : ops[i]? = some oi) (hj : ops[j]? = some oj) (hij : i ≠ j) (hr : Region.ready md ops listed = [i, j])
    (hri : Region.ready md ops (listed.setIfInBounds i true) = [j]) (hrj : Region.ready md ops (listed.setIfInBounds j true) = [i])
    (hwi : Region.wanted oi (yielded ops a.tmps) = true) (hwj : Region.wanted oj (yielded ops a.tmps) = true)
    (hwi' : ∀ v, Region.wanted oi (yielded ops (a.put oj.dst v).tmps) = true) (hwj' : ∀ v, Region.wanted oj (yielded ops (a.put oi.dst v).tmps) = true)
    (hei : ∀ w, (execOp a.eval oi).run P w = .ok (.enter fi ai) w) (hej : ∀ w, (execOp a.eval oj).run P w = .ok (.enter fj aj) w)
    (hei' : ∀ v w, (execOp (a.put oj.dst v).eval oi).run P w = .ok (.enter fi ai) w) (hej' : ∀ v w, (execOp (a.put oi.dst v).eval oj).run P w = .ok (.enter fj aj) w)
    (hcomm : ∀ vi vj, (a.put oj.dst vj).put oi.dst vi = (a.put oi.dst vi).put oj.dst vj) (hS : LS W0 w) (bi : Bears Vi) (bj : Bears Vj)
    (hci : ∀ w1, Below w.heap.size w w1 → Gives P fi ai w1 Vi) (hcj : ∀ w1, Below w.heap.size w w1 → Gives P fj aj w1 Vj)
    (hk : ∀ vi vj w', Below w.heap.size w w' → LS W0 w' → Vi vi w' → Vj vj w' → wpAnyH P md ops Q (LS W0) fuel ((listed.setIfInBounds i true).setIfInBounds j true) ((a.put oi.dst vi).put oj.dst vj) w') : wpAnyH P md ops Q (LS W0) (fuel + 2) listed a w := by
  refine wpAnyH_all hr (by simp) fun k hk' => ?_
  rcases (by simpa using hk' : k = i ∨ k = j) with rfl | rfl
  · refine op_call hi hwi (hei w) hS (hci w (Below.refl _ _)) fun vi w1 hb1 hV1 => ?_
    refine wpAnyH_all hri (by simp) fun k hk' => ?_
    obtain rfl : k = j := by simpa using hk'
    refine op_call hj (hwj' vi) (hej' vi w1) (hS.step hb1) (hcj w1 hb1) fun vj w2 hb2 hV2 => ?_
    exact hk vi vj w2 (hb1.trans (hb2.mono hb1.size)) ((hS.step hb1).step hb2) (bi _ _ _ hV1 hb2) hV2
  · refine op_call hj hwj (hej w) hS (hcj w (Below.refl _ _)) fun vj w1 hb1 hV1 => ?_
    refine wpAnyH_all hrj (by simp) fun k hk' => ?_
    obtain rfl : k = i := by simpa using hk'
    refine op_call hi (hwi' vj) (hei' vj w1) (hS.step hb1) (hci w1 hb1) fun vi w2 hb2 hV2 => ?_
    rw [Array.setIfInBounds_comm _ _ hij.symm, hcomm]
    exact hk vi vj w2 (hb1.trans (hb2.mono hb1.size)) ((hS.step hb1).step hb2) hV2 (bj _ _ _ hV1 hb2)
theorem op_val {W0 : World} {o : Oper} {i : Nat} {v : Value} {a : Act} {w w' : World} {K : Act → World → Prop}
    (hi : ops[i]? = some o) (hw : Region.wanted o (yielded ops a.tmps) = true) (he : (execOp a.eval o).run P w = .ok (.value v) w') (hS : LS W0 w) (hb : Below w.heap.size w w')
    (hk : K (a.put o.dst v) w') : wpOp P ops Q i (fun a' w' => LS W0 w' ∧ K a' w') a w := by
  unfold wpOp
  simp only [hi]
  rw [if_pos hw]
  refine .inl ?_
  unfold Oper.wp
  rw [he]
  simp only [Oper.upon]
  exact ⟨hS.step hb, hk⟩
/-- Two may come up: a new block, behind which comes a call that takes it; and a call. -/
theorem any_three {W0 : World} {i j k : Nat} {oi oj ok : Oper} {fj fk : FuncId} {aj : Value → Array Value} {ak : Array Value} {Vi Vj Vk : Value → World → Prop} {fuel : Nat} {listed : Array Bool} {a : Act} {w : World}
    (hi : ops[i]? = some oi) (hj : ops[j]? = some oj) (hok : ops[k]? = some ok) (hik : i ≠ k) (hjk : j ≠ k)
    (r0 : Region.ready md ops listed = [i, k]) (r1 : Region.ready md ops (listed.setIfInBounds i true) = [j, k]) (r2 : Region.ready md ops (listed.setIfInBounds k true) = [i])
    (r3 : Region.ready md ops ((listed.setIfInBounds i true).setIfInBounds j true) = [k]) (r4 : Region.ready md ops ((listed.setIfInBounds i true).setIfInBounds k true) = [j])
    (wi : Region.wanted oi (yielded ops a.tmps) = true) (wk : Region.wanted ok (yielded ops a.tmps) = true)
    (wi' : ∀ v, Region.wanted oi (yielded ops (a.put ok.dst v).tmps) = true) (wj : ∀ v, Region.wanted oj (yielded ops (a.put oi.dst v).tmps) = true) (wk' : ∀ v, Region.wanted ok (yielded ops (a.put oi.dst v).tmps) = true)
    (wk2 : ∀ v v2, Region.wanted ok (yielded ops ((a.put oi.dst v).put oj.dst v2).tmps) = true) (wj2 : ∀ v v2, Region.wanted oj (yielded ops ((a.put oi.dst v).put ok.dst v2).tmps) = true)
    (hei : ∀ w1, Below w.heap.size w w1 → ∃ v w2, (execOp a.eval oi).run P w1 = .ok (.value v) w2 ∧ Vi v w2 ∧ Below w1.heap.size w1 w2) (hei' : ∀ v w, (execOp (a.put ok.dst v).eval oi).run P w = (execOp a.eval oi).run P w)
    (hej : ∀ v w, (execOp (a.put oi.dst v).eval oj).run P w = .ok (.enter fj (aj v)) w) (hej' : ∀ v v2 w, (execOp ((a.put oi.dst v).put ok.dst v2).eval oj).run P w = .ok (.enter fj (aj v)) w)
    (hek : ∀ w, (execOp a.eval ok).run P w = .ok (.enter fk ak) w) (hek1 : ∀ v w, (execOp (a.put oi.dst v).eval ok).run P w = .ok (.enter fk ak) w) (hek2 : ∀ v v2 w, (execOp ((a.put oi.dst v).put oj.dst v2).eval ok).run P w = .ok (.enter fk ak) w)
    (c1 : ∀ vi vk, (a.put ok.dst vk).put oi.dst vi = (a.put oi.dst vi).put ok.dst vk) (c2 : ∀ vi vj vk, ((a.put oi.dst vi).put ok.dst vk).put oj.dst vj = ((a.put oi.dst vi).put oj.dst vj).put ok.dst vk) (hS : LS W0 w)
    (bi : Bears Vi) (bj : Bears Vj) (bk : Bears Vk)
    (hcj : ∀ v w1, Below w.heap.size w w1 → Vi v w1 → Gives P fj (aj v) w1 Vj) (hck : ∀ w1, Below w.heap.size w w1 → Gives P fk ak w1 Vk)
    (hk : ∀ vi vj vk w', Below w.heap.size w w' → LS W0 w' → Vi vi w' → Vj vj w' → Vk vk w' → wpAnyH P md ops Q (LS W0) fuel (((listed.setIfInBounds i true).setIfInBounds j true).setIfInBounds k true) (((a.put oi.dst vi).put oj.dst vj).put ok.dst vk) w') : wpAnyH P md ops Q (LS W0) (fuel + 3) listed a w := by
  refine wpAnyH_all r0 (by simp) fun q hq => ?_
  rcases (by simpa using hq : q = i ∨ q = k) with rfl | rfl
  · obtain ⟨vi, w1, he, hV1, hb1⟩ := hei w (Below.refl _ _)
    refine op_val hi wi he hS hb1 ?_
    refine wpAnyH_all r1 (by simp) fun q hq => ?_
    rcases (by simpa using hq : q = j ∨ q = k) with rfl | rfl
    · refine op_call hj (wj vi) (hej vi w1) (hS.step hb1) (hcj vi w1 hb1 hV1) fun vj w2 hb2 hV2 => ?_
      have hb12 := hb1.trans (hb2.mono hb1.size)
      refine wpAnyH_all r3 (by simp) fun q hq => ?_
      obtain rfl : q = k := by simpa using hq
      refine op_call hok (wk2 vi vj) (hek2 vi vj w2) (hS.step hb12) (hck w2 hb12) fun vk w3 hb3 hV3 => ?_
      exact hk vi vj vk w3 (hb12.trans (hb3.mono hb12.size)) ((hS.step hb12).step hb3) (bi _ _ _ (bi _ _ _ hV1 hb2) hb3) (bj _ _ _ hV2 hb3) hV3
    · refine op_call hok (wk' vi) (hek1 vi w1) (hS.step hb1) (hck w1 hb1) fun vk w2 hb2 hV2 => ?_
      have hb12 := hb1.trans (hb2.mono hb1.size)
      refine wpAnyH_all r4 (by simp) fun q hq => ?_
      obtain rfl : q = j := by simpa using hq
      refine op_call hj (wj2 vi vk) (hej' vi vk w2) (hS.step hb12) (hcj vi w2 hb12 (bi _ _ _ hV1 hb2)) fun vj w3 hb3 hV3 => ?_
      rw [Array.setIfInBounds_comm _ _ hjk.symm, c2]
      exact hk vi vj vk w3 (hb12.trans (hb3.mono hb12.size)) ((hS.step hb12).step hb3) (bi _ _ _ (bi _ _ _ hV1 hb2) hb3) hV3 (bk _ _ _ hV2 hb3)
  · refine op_call hok wk (hek w) hS (hck w (Below.refl _ _)) fun vk w1 hb1 hV1 => ?_
    refine wpAnyH_all r2 (by simp) fun q hq => ?_
    obtain rfl : q = i := by simpa using hq
    obtain ⟨vi, w2, he, hV2, hb2⟩ := hei w1 hb1
    have hb12 := hb1.trans (hb2.mono hb1.size)
    refine op_val hi (wi' vk) ((hei' vk w1).trans he) (hS.step hb1) hb2 ?_
    rw [Array.setIfInBounds_comm _ _ hik.symm, c1]
    refine wpAnyH_all r4 (by simp) fun q hq => ?_
    obtain rfl : q = j := by simpa using hq
    refine op_call hj (wj2 vi vk) (hej' vi vk w2) (hS.step hb12) (hcj vi w2 hb12 hV2) fun vj w3 hb3 hV3 => ?_
    rw [Array.setIfInBounds_comm _ _ hjk.symm, c2]
    exact hk vi vj vk w3 (hb12.trans (hb3.mono hb12.size)) ((hS.step hb12).step hb3) (bi _ _ _ hV2 hb3) hV3 (bk _ _ _ (bk _ _ _ hV1 hb2) hb3)
/-- One operation alone may come up, that is no call: it lays new blocks at most. -/
theorem any_op {W0 : World} {i : Nat} {o : Oper} {v : Value} {fuel : Nat} {listed : Array Bool} {a : Act} {w w' : World}
    (hi : ops[i]? = some o) (hr : Region.ready md ops listed = [i]) (hw : Region.wanted o (yielded ops a.tmps) = true) (he : (execOp a.eval o).run P w = .ok (.value v) w') (hS : LS W0 w)
    (hb : Below w.heap.size w w') (hk : LS W0 w' → wpAnyH P md ops Q (LS W0) fuel (listed.setIfInBounds i true) (a.put o.dst v) w') : wpAnyH P md ops Q (LS W0) (fuel + 1) listed a w := by
  refine wpAnyH_all hr (by simp) fun j hj => ?_
  obtain rfl : j = i := by simpa using hj
  unfold wpOp
  simp only [hi]
  rw [if_pos hw]
  refine .inl ?_
  unfold Oper.wp
  rw [he]
  simp only [Oper.upon]
  exact ⟨hS.step hb, hk (hS.step hb)⟩
/-! The same, the slot that is written told by its number. -/
theorem any_take {S : World → Prop} {i : Nat} {oi : Oper} (d : Option Tmp) (v : Value) {fuel : Nat} {listed : Array Bool} {a : Act} {w : World} (hi : ops[i]? = some oi) (hd : oi.dst = d)
    (hs : Region.noSelect ops = true) (hf : Region.free md ops listed i = true) (hr : (Region.ready md ops listed).contains i = true)
    (hQ : ∀ c a w, Q (.panic c) (a.put d v) w → Q (.panic c) a w) (hy : YieldsIf P ops S oi v a) (hS : S w)
    (h : wpAnyH P md ops Q S fuel (listed.setIfInBounds i true) (a.put d v) w) : wpAnyH P md ops Q S (fuel + 1) listed a w := by
  subst hd; exact wpAnyH_take hi hs hf hr hQ hy hS h
theorem any_one_d {W0 : World} {i : Nat} {o : Oper} (d : Option Tmp) {f : FuncId} {args : Array Value} {V : Value → World → Prop} {fuel : Nat} {listed : Array Bool} {a : Act} {w : World}
    (hi : ops[i]? = some o) (hd : o.dst = d) (hr : Region.ready md ops listed = [i]) (hw : Region.wanted o (yielded ops a.tmps) = true) (he : (execOp a.eval o).run P w = .ok (.enter f args) w) (hS : LS W0 w)
    (hc : Gives P f args w V) (hk : ∀ v w', Below w.heap.size w w' → LS W0 w' → V v w' → wpAnyH P md ops Q (LS W0) fuel (listed.setIfInBounds i true) (a.put d v) w') : wpAnyH P md ops Q (LS W0) (fuel + 1) listed a w := by
  subst hd; exact any_one hi hr hw he hS hc hk
theorem any_op_d {W0 : World} {i : Nat} {o : Oper} (d : Option Tmp) {v : Value} {fuel : Nat} {listed : Array Bool} {a : Act} {w w' : World}
    (hi : ops[i]? = some o) (hd : o.dst = d) (hr : Region.ready md ops listed = [i]) (hw : Region.wanted o (yielded ops a.tmps) = true) (he : (execOp a.eval o).run P w = .ok (.value v) w') (hS : LS W0 w)
    (hb : Below w.heap.size w w') (hk : LS W0 w' → wpAnyH P md ops Q (LS W0) fuel (listed.setIfInBounds i true) (a.put d v) w') : wpAnyH P md ops Q (LS W0) (fuel + 1) listed a w := by
  subst hd; exact any_op hi hr hw he hS hb hk
end Go.Proofs.Ytglmhdlkhnlkiaa
/- A drawn region by numbers, where S says what stays whatever is stored: one operation that may come up. -/
namespace Go.Proofs.Ytglmhdlkhnlkiaa
open Go.RowKit
section
variable {P : Program} {ops : Array Oper} {Q : Exit → Act → World → Prop} {md : Region.Mode} {S : World → Prop}
/-- One operation that may come up is carried out: S is shown anew. -/
theorem ops_val {o : Oper} {i : Nat} {d : Option Tmp} {v : Value} {a : Act} {w w' : World} {K : Act → World → Prop}
    (hi : ops[i]? = some o) (hd : o.dst = d) (hw : Region.wanted o (yielded ops a.tmps) = true) (he : (execOp a.eval o).run P w = .ok (.value v) w') (hS : S w')
    (hk : K (a.put d v) w') : wpOp P ops Q i (fun a' w' => S w' ∧ K a' w') a w := by
  subst hd
  unfold wpOp
  simp only [hi]
  rw [if_pos hw]
  refine .inl ?_
  unfold Oper.wp
  rw [he]
  simp only [Oper.upon]
  exact ⟨hS, hk⟩
theorem ops_skip {o : Oper} {i : Nat} {a : Act} {w w' : World} {K : Act → World → Prop}
    (hi : ops[i]? = some o) (hw : Region.wanted o (yielded ops a.tmps) = true) (he : (execOp a.eval o).run P w = .ok .skip w') (hS : S w')
    (hd : o.dst = none) (hk : K a w') : wpOp P ops Q i (fun a' w' => S w' ∧ K a' w') a w := by
  unfold wpOp
  simp only [hi]
  rw [if_pos hw]
  refine .inl ?_
  unfold Oper.wp
  rw [he]
  simp only [Oper.upon]
  rw [hd]
  exact ⟨hS, hk⟩
theorem ops_call {o : Oper} {i : Nat} {d : Option Tmp} {f : FuncId} {args : Array Value} {a : Act} {w : World} {K : Act → World → Prop}
    (hi : ops[i]? = some o) (hd : o.dst = d) (hw : Region.wanted o (yielded ops a.tmps) = true) (he : (execOp a.eval o).run P w = .ok (.enter f args) w)
    (hc : Calls P f args w fun e w' => ∃ v, e = .returned v ∧ S w' ∧ K (a.put d v) w') : wpOp P ops Q i (fun a' w' => S w' ∧ K a' w') a w := by
  subst hd
  unfold wpOp
  simp only [hi]
  rw [if_pos hw]
  refine .inl ?_
  unfold Oper.wp
  rw [he]
  simp only [Oper.upon]
  refine hc.mono fun e w' ⟨v, hv, hS, hk⟩ => ?_
  subst hv
  exact ⟨hS, hk⟩
end
end Go.Proofs.Ytglmhdlkhnlkiaa
/- types.Size, types.Right, types.Has. -/
namespace Go.Proofs.Ytglmhdlkhnlkiaa
open Go.RowKit Go.Shelf
attribute [local go_sem] Oper.semAt_some

theorem results_box {P : Program} {fn : Func} {p : Tmp} {ty : TypeId} (h : fn.results = #[.cell p ty]) (tmps : Array Value) (w : World) (g : Nat) (v : Value)
    (hp : tmps.getD p undef = .pointer (some ⟨g, 0, none⟩)) (hl : (loadVar ty ⟨g, 0, none⟩).run P w = .ok v w) : (results fn tmps).run P w = .ok v w := by
  have hp' : tmps[p]?.getD undef = .pointer (some ⟨g, 0, none⟩) := by simpa using hp
  simp [results, h, hp', asAddr, hl]
/-- A type, loaded. -/
theorem load_ty {w : World} {g : Nat} {k n : Int} {u : Sl} (h0 : w.cell? ⟨g, 0, none⟩ = some (.int .i64 k)) (h1 : w.cell? ⟨g, 1, none⟩ = some (.int .i64 n)) (h2 : w.cell? ⟨g, 2, none⟩ = some (slv u)) : (loadVar 24 ⟨g, 0, none⟩).run Try.prog w = .ok (tyVal k n (slv u)) w := by
  unfold slv at h2
  unfold tyVal slv
  go_simp
theorem below_own {β : Type} {B C : Nat} {w : World} (hC : C ≤ B) (hw : C ≤ w.heap.size) : OwnFrom B (fun (_ : β) W => Below C w W) := by
  intro s X Y row hs hg hr
  refine ⟨hg.os.trans hs.os, hg.tape.trans hs.tape, hg.output.trans hs.output, Nat.le_trans hs.size hg.size, fun k hk => ?_⟩
  exact (hg.block k (Nat.lt_of_lt_of_le hk (Nat.le_trans hw hs.size)) (fun e => by have := (hr k e.symm).1; omega)).trans (hs.block k hk)
theorem below_ab {β : Type} {B C : Nat} {t : TypeId} {w : World} (hC : C ≤ B) (hw : C ≤ w.heap.size) : AbC B t (fun (_ : β) W => Below C w W) := fun _ _ _ hs hc => hs.trans (hc.below hC (Nat.le_trans hw hs.size))
theorem box_ab {β : Type} {B b : Nat} {t u : TypeId} {f : β → Value} (hne : u ≠ t) : AbC B t (fun s W => Boxed W b u (f s)) := fun _ _ _ hs hc => hc.box hne hs
theorem KpC.box {B b : Nat} {W : World} {u : TypeId} {v : Value} (hb : Boxed W b u v) (hne : u ≠ 24) (hB : B ≤ b) (hw : B ≤ W.heap.size) (v' : Value) : KpC B W (W.setCell ⟨b, 0, none⟩ v') := by
  have hg := grownBy_setCell' W b v'
  refine ⟨(Below.refl B W).grown hg hw (fun k e => by cases e; exact hB), fun k cs hk => (hg.block k (Array.getElem?_eq_some_iff.1 hk).1 fun e => ?_).trans hk⟩
  cases e
  rw [show W.heap[b]? = _ from hb] at hk
  cases hk
  exact hne rfl
/-- One type, laid as a list, and boxed. -/
theorem one_laid {B : Nat} {w : World} (k n : Int) (u : Sl) (ps : Fo) (hB : B ≤ w.heap.size) (hps : TyV B w ps (slv u)) :
    ∃ W, (w.alloc (.cells #[.int .i64 k, .int .i64 n, slv u] 24)).alloc (.cells #[.slice (some ⟨w.heap.size, 0, none⟩) 1 1] 22) = W ∧ W.heap.size = w.heap.size + 1 + 1 ∧
      Boxed W (w.heap.size + 1) 22 (.slice (some ⟨w.heap.size, 0, none⟩) 1 1) ∧ RdX W.heap.size W (.slice (some ⟨w.heap.size, 0, none⟩) 1 1) (Fo.cons k n u ps .nil).top ∧ TyL B W (.cons k n u ps .nil) ∧ Below w.heap.size w W := by
  have hb : Below w.heap.size w ((w.alloc (.cells #[.int .i64 k, .int .i64 n, slv u] 24)).alloc (.cells #[.slice (some ⟨w.heap.size, 0, none⟩) 1 1] 22)) := ((Below.refl _ w).alloc (Nat.le_refl _) _).alloc (by simp) _
  refine ⟨_, rfl, by simp, ?_, ?_, ⟨hps.below (hb.mono hB), trivial⟩, hb⟩
  · have := Boxed.new (w.alloc (.cells #[.int .i64 k, .int .i64 n, slv u] 24)) 22 (.slice (some ⟨w.heap.size, 0, none⟩) 1 1)
    rwa [World.size_alloc] at this
  · refine ⟨_, 1, rfl, fun _ => ⟨w.heap.size, 0, rfl, by simp only [World.size_alloc]; omega, fun i hi => ?_⟩⟩
    obtain rfl : i = 0 := by simp [Fo.top] at hi; omega
    simp only [Fo.top, List.getElem_cons_zero, Nat.zero_mul, Nat.add_zero, Nat.zero_add]
    have hc : ∀ (j : Nat) (v : Value), [Value.int .i64 k, .int .i64 n, slv u][j]? = some v → ((w.alloc (.cells #[.int .i64 k, .int .i64 n, slv u] 24)).alloc (.cells #[.slice (some ⟨w.heap.size, 0, none⟩) 1 1] 22)).cell? ⟨w.heap.size, j, none⟩ = some v := by
      intro j v hv
      have h1 := cells_new w [.int .i64 k, .int .i64 n, slv u] 24 j v hv
      rw [add_lit0] at h1
      exact (((Below.refl (w.heap.size + 1) (w.alloc (.cells #[.int .i64 k, .int .i64 n, slv u] 24))).alloc (by simp) _).cell (p := ⟨w.heap.size, j, none⟩) (by simp)).trans h1
    exact ⟨hc 0 _ rfl, hc 1 _ rfl, hc 2 _ rfl⟩
end Go.Proofs.Ytglmhdlkhnlkiaa
/- types.Depth. -/
namespace Go.Proofs.Ytglmhdlkhnlkiaa
open Go.RowKit
attribute [local go_sem ↓] builtin_app
theorem trC_one (L : List Tr) : ∀ u ∈ L.flatMap trC, u.oneCell' = true := by
  intro u hu
  obtain ⟨x, _, hx⟩ := List.mem_flatMap.1 hu
  simp only [trC, List.mem_cons, List.not_mem_nil, or_false] at hx
  rcases hx with rfl | rfl | rfl <;> rfl
theorem top_at (F : Fo) (j : Nat) (hj : j < F.len) : (F.top.flatMap trC)[j * 3]? = some (.int .i64 (F.at_ j).1) ∧ (F.top.flatMap trC)[j * 3 + 1]? = some (.int .i64 (F.at_ j).2.1) ∧ (F.top.flatMap trC)[j * 3 + 2]? = some (slv (F.at_ j).2.2.1) := by
  induction F generalizing j with
  | nil => simp [Fo.len] at hj
  | cons k n u ps r _ ih =>
    cases j with
    | zero => simp [Fo.top, trC, Fo.at_]
    | succ j =>
      have := ih j (by simp [Fo.len] at hj; omega)
      simp only [Fo.top, List.flatMap_cons, trC, Fo.at_, List.cons_append, List.nil_append]
      rw [show (j + 1) * 3 = j * 3 + 1 + 1 + 1 by omega]
      simp only [List.getElem?_cons_succ]
      exact this
theorem TyL.at {B : Nat} {w : World} {F : Fo} (h : TyL B w F) (j : Nat) (hj : j < F.len) : TyV B w (F.at_ j).2.2.2 (slv (F.at_ j).2.2.1) := by
  induction F generalizing j with
  | nil => simp [Fo.len] at hj
  | cons k n u ps r _ ih =>
    cases j with
    | zero => exact h.1
    | succ j => exact ih h.2 j (by simp [Fo.len] at hj; omega)
/-- Between two levels. -/
def DInv (w : World) (D N : Nat) (t3 t4 : Value) (wr : World) (s : Nat) : Prop :=
  ∃ (F : Fo) (d : Nat), F.size = s ∧ t3 = .int .i64 d ∧ d + F.depth = D ∧ F.size ≤ N ∧ Rd wr 3 t4 F.len (F.top.flatMap trC) ∧ TyL w.heap.size wr F ∧ Below w.heap.size w wr
end Go.Proofs.Ytglmhdlkhnlkiaa
