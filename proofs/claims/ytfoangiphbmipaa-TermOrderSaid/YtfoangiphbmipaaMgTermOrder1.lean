/- Texts of one proof, one behind the other. -/
import Derived.OrdersHeld
import Derived.Deep.RegionHeld3
import Derived.Below
import Derived.WalkKit
import Derived.OrdersIn
import Derived.CallsIn
/- Regions that hold many calls in a row, two and two beside each other: what each pair leaves is walked once. Nothing here speaks of the program. -/
namespace Go.Proofs.Ytfoangiphbmipaa
open Go.RowKit
variable {P : Program} {ops : Array Oper} {Q : Exit → Act → World → Prop} {md : Region.Mode}

/-- Nothing that stood in W0 has turned. -/
def LS (W0 : World) (w : World) : Prop := Below W0.heap.size W0 w
theorem LS.step {W0 w w' : World} (h : LS W0 w) (hb : Below w.heap.size w w') : LS W0 w' := Below.trans h (hb.mono h.size)
/-- What bears that new blocks are laid. -/
def Bears (V : Value → World → Prop) : Prop := ∀ v w w', V v w → Below w.heap.size w w' → V v w'
theorem bears_eq (u : Value) : Bears (fun v _ => v = u) := fun _ _ _ h _ => h
/-- A call's contract: new blocks alone, and what is known of its value. -/
abbrev Gives (P : Program) (f : FuncId) (args : Array Value) (w : World) (V : Value → World → Prop) : Prop :=
  Calls P f args w fun e w' => ∃ v, e = .returned v ∧ V v w' ∧ Below w.heap.size w w'
theorem gives_of {f : FuncId} {args : Array Value} {w : World} {u : Value} (h : Calls P f args w fun e w' => e = .returned u ∧ Below w.heap.size w w') : Gives P f args w (fun v _ => v = u) := h.mono fun _ _ ⟨h1, h2⟩ => ⟨u, h1, rfl, h2⟩
theorem op_call {W0 : World} {o : Oper} {i : Nat} {f : FuncId} {args : Array Value} {V : Value → World → Prop} {a : Act} {w : World} {K : Act → World → Prop}
    (hi : ops[i]? = some o) (hw : Region.wanted o (yielded ops a.tmps) = true) (he : (execOp a.eval o).run P w = .ok (.enter f args) w) (hS : LS W0 w)
    (hc : Gives P f args w V) (hk : ∀ v w', Below w.heap.size w w' → V v w' → K (a.put o.dst v) w') : wpOp P ops Q i (fun a' w' => LS W0 w' ∧ K a' w') a w := by
  unfold wpOp
  simp only [hi]
  rw [if_pos hw]
  refine .inl ?_
  unfold Oper.wp
  rw [he]
  simp only [Oper.upon]
  refine hc.mono fun e w' ⟨v, hv, hV, hb⟩ => ?_
  subst hv
  exact ⟨hS.step hb, hk v w' hb hV⟩
/-- One call alone may come up. -/
theorem any_one {W0 : World} {i : Nat} {o : Oper} {f : FuncId} {args : Array Value} {V : Value → World → Prop} {fuel : Nat} {listed : Array Bool} {a : Act} {w : World}
    (hi : ops[i]? = some o) (hr : Region.ready md ops listed = [i]) (hw : Region.wanted o (yielded ops a.tmps) = true) (he : (execOp a.eval o).run P w = .ok (.enter f args) w) (hS : LS W0 w)
    (hc : Gives P f args w V) (hk : ∀ v w', Below w.heap.size w w' → LS W0 w' → V v w' → wpAnyH P md ops Q (LS W0) fuel (listed.setIfInBounds i true) (a.put o.dst v) w') : wpAnyH P md ops Q (LS W0) (fuel + 1) listed a w := by
  refine wpAnyH_all hr (by simp) fun j hj => ?_
  obtain rfl : j = i := by simpa using hj
  exact op_call hi hw he hS hc fun v w' hb hV => hk v w' hb (hS.step hb) hV
/-- Two calls may come up, in either order. -/
theorem any_two {W0 : World} {i j : Nat} {oi oj : Oper} {fi fj : FuncId} {ai aj : Array Value} {Vi Vj : Value → World → Prop} {fuel : Nat} {listed : Array Bool} {a : Act} {w : World}
    (hi : ops[i]? = some oi) (hj : ops[j]? = some oj) (hij : i ≠ j) (hr : Region.ready md ops listed = [i, j])
    (hri : Region.ready md ops (listed.setIfInBounds i true) = [j]) (hrj : Region.ready md ops (listed.setIfInBounds j true) = [i])
    (hwi : Region.wanted oi (yielded ops a.tmps) = true) (hwj : Region.wanted oj (yielded ops a.tmps) = true)
    (hwi' : ∀ v, Region.wanted oi (yielded ops (a.put oj.dst v).tmps) = true) (hwj' : ∀ v, Region.wanted oj (yielded ops (a.put oi.dst v).tmps) = true)
    (hei : ∀ w, (execOp a.eval oi).run P w = .ok (.enter fi ai) w) (hej : ∀ w, (execOp a.eval oj).run P w = .ok (.enter fj aj) w)
    (hei' : ∀ v w, (execOp (a.put oj.dst v).eval oi).run P w = .ok (.enter fi ai) w) (hej' : ∀ v w, (execOp (a.put oi.dst v).eval oj).run P w = .ok (.enter fj aj) w)
    (hcomm : ∀ vi vj, (a.put oj.dst vj).put oi.dst vi = (a.put oi.dst vi).put oj.dst vj) (hS : LS W0 w) (bi : Bears Vi) (bj : Bears Vj)
    (hci : ∀ w1, Below w.heap.size w w1 → Gives P fi ai w1 Vi) (hcj : ∀ w1, Below w.heap.size w w1 → Gives P fj aj w1 Vj)
    (hk : ∀ vi vj w', Below w.heap.size w w' → LS W0 w' → Vi vi w' → Vj vj w' → wpAnyH P md ops Q (LS W0) fuel ((listed.setIfInBounds i true).setIfInBounds j true) ((a.put oi.dst vi).put oj.dst vj) w') : wpAnyH P md ops Q (LS W0) (fuel + 2) listed a w := by
  refine wpAnyH_all hr (by simp) fun k hk' => ?_
  rcases (by simpa using hk' : k = i ∨ k = j) with rfl | rfl
  · refine op_call hi hwi (hei w) hS (hci w (Below.refl _ _)) fun vi w1 hb1 hV1 => ?_
    refine wpAnyH_all hri (by simp) fun k hk' => ?_
    obtain rfl : k = j := by simpa using hk'
    refine op_call hj (hwj' vi) (hej' vi w1) (hS.step hb1) (hcj w1 hb1) fun vj w2 hb2 hV2 => ?_
    exact hk vi vj w2 (hb1.trans (hb2.mono hb1.size)) ((hS.step hb1).step hb2) (bi _ _ _ hV1 hb2) hV2
  · refine op_call hj hwj (hej w) hS (hcj w (Below.refl _ _)) fun vj w1 hb1 hV1 => ?_
    refine wpAnyH_all hrj (by simp) fun k hk' => ?_
    obtain rfl : k = i := by simpa using hk'
    refine op_call hi (hwi' vj) (hei' vj w1) (hS.step hb1) (hci w1 hb1) fun vi w2 hb2 hV2 => ?_
    rw [Array.setIfInBounds_comm _ _ hij.symm, hcomm]
    exact hk vi vj w2 (hb1.trans (hb2.mono hb1.size)) ((hS.step hb1).step hb2) hV2 (bj _ _ _ hV1 hb2)
theorem op_val {W0 : World} {o : Oper} {i : Nat} {v : Value} {a : Act} {w w' : World} {K : Act → World → Prop}
    (hi : ops[i]? = some o) (hw : Region.wanted o (yielded ops a.tmps) = true) (he : (execOp a.eval o).run P w = .ok (.value v) w') (hS : LS W0 w) (hb : Below w.heap.size w w')
    (hk : K (a.put o.dst v) w') : wpOp P ops Q i (fun a' w' => LS W0 w' ∧ K a' w') a w := by
  unfold wpOp
  simp only [hi]
  rw [if_pos hw]
  refine .inl ?_
  unfold Oper.wp
  rw [he]
  simp only [Oper.upon]
  exact ⟨hS.step hb, hk⟩
/-- Two may come up: a new block, behind which comes a call that takes it; and a call. -/
theorem any_three {W0 : World} {i j k : Nat} {oi oj ok : Oper} {fj fk : FuncId} {aj : Value → Array Value} {ak : Array Value} {Vi Vj Vk : Value → World → Prop} {fuel : Nat} {listed : Array Bool} {a : Act} {w : World}
    (hi : ops[i]? = some oi) (hj : ops[j]? = some oj) (hok : ops[k]? = some ok) (hik : i ≠ k) (hjk : j ≠ k)
    (r0 : Region.ready md ops listed = [i, k]) (r1 : Region.ready md ops (listed.setIfInBounds i true) = [j, k]) (r2 : Region.ready md ops (listed.setIfInBounds k true) = [i])
    (r3 : Region.ready md ops ((listed.setIfInBounds i true).setIfInBounds j true) = [k]) (r4 : Region.ready md ops ((listed.setIfInBounds i true).setIfInBounds k true) = [j])
    (wi : Region.wanted oi (yielded ops a.tmps) = true) (wk : Region.wanted ok (yielded ops a.tmps) = true)
    (wi' : ∀ v, Region.wanted oi (yielded ops (a.put ok.dst v).tmps) = true) (wj : ∀ v, Region.wanted oj (yielded ops (a.put oi.dst v).tmps) = true) (wk' : ∀ v, Region.wanted ok (yielded ops (a.put oi.dst v).tmps) = true)
    (wk2 : ∀ v v2, Region.wanted ok (yielded ops ((a.put oi.dst v).put oj.dst v2).tmps) = true) (wj2 : ∀ v v2, Region.wanted oj (yielded ops ((a.put oi.dst v).put ok.dst v2).tmps) = true)
    (hei : ∀ w1, Below w.heap.size w w1 → ∃ v w2, (execOp a.eval oi).run P w1 = .ok (.value v) w2 ∧ Vi v w2 ∧ Below w1.heap.size w1 w2) (hei' : ∀ v w, (execOp (a.put ok.dst v).eval oi).run P w = (execOp a.eval oi).run P w)
    (hej : ∀ v w, (execOp (a.put oi.dst v).eval oj).run P w = .ok (.enter fj (aj v)) w) (hej' : ∀ v v2 w, (execOp ((a.put oi.dst v).put ok.dst v2).eval oj).run P w = .ok (.enter fj (aj v)) w)
    (hek : ∀ w, (execOp a.eval ok).run P w = .ok (.enter fk ak) w) (hek1 : ∀ v w, (execOp (a.put oi.dst v).eval ok).run P w = .ok (.enter fk ak) w) (hek2 : ∀ v v2 w, (execOp ((a.put oi.dst v).put oj.dst v2).eval ok).run P w = .ok (.enter fk ak) w)
    (c1 : ∀ vi vk, (a.put ok.dst vk).put oi.dst vi = (a.put oi.dst vi).put ok.dst vk) (c2 : ∀ vi vj vk, ((a.put oi.dst vi).put ok.dst vk).put oj.dst vj = ((a.put oi.dst vi).put oj.dst vj).put ok.dst vk) (hS : LS W0 w)
    (bi : Bears Vi) (bj : Bears Vj) (bk : Bears Vk)
    (hcj : ∀ v w1, Below w.heap.size w w1 → Vi v w1 → Gives P fj (aj v) w1 Vj) (hck : ∀ w1, Below w.heap.size w w1 → Gives P fk ak w1 Vk)
    (hk : ∀ vi vj vk w', Below w.heap.size w w' → LS W0 w' → Vi vi w' → Vj vj w' → Vk vk w' → wpAnyH P md ops Q (LS W0) fuel (((listed.setIfInBounds i true).setIfInBounds j true).setIfInBounds k true) (((a.put oi.dst vi).put oj.dst vj).put ok.dst vk) w') : wpAnyH P md ops Q (LS W0) (fuel + 3) listed a w := by
  refine wpAnyH_all r0 (by simp) fun q hq => ?_
  rcases (by simpa using hq : q = i ∨ q = k) with rfl | rfl
  · obtain ⟨vi, w1, he, hV1, hb1⟩ := hei w (Below.refl _ _)
    refine op_val hi wi he hS hb1 ?_
    refine wpAnyH_all r1 (by simp) fun q hq => ?_
    rcases (by simpa using hq : q = j ∨ q = k) with rfl | rfl
    · refine op_call hj (wj vi) (hej vi w1) (hS.step hb1) (hcj vi w1 hb1 hV1) fun vj w2 hb2 hV2 => ?_
      have hb12 := hb1.trans (hb2.mono hb1.size)
      refine wpAnyH_all r3 (by simp) fun q hq => ?_
      obtain rfl : q = k := by simpa using hq
      refine op_call hok (wk2 vi vj) (hek2 vi vj w2) (hS.step hb12) (hck w2 hb12) fun vk w3 hb3 hV3 => ?_
      exact hk vi vj vk w3 (hb12.trans (hb3.mono hb12.size)) ((hS.step hb12).step hb3) (bi _ _ _ (bi _ _ _ hV1 hb2) hb3) (bj _ _ _ hV2 hb3) hV3
    · refine op_call hok (wk' vi) (hek1 vi w1) (hS.step hb1) (hck w1 hb1) fun vk w2 hb2 hV2 => ?_
      have hb12 := hb1.trans (hb2.mono hb1.size)
      refine wpAnyH_all r4 (by simp) fun q hq => ?_
      obtain rfl : q = j := by simpa using hq
      refine op_call hj (wj2 vi vk) (hej' vi vk w2) (hS.step hb12) (hcj vi w2 hb12 (bi _ _ _ hV1 hb2)) fun vj w3 hb3 hV3 => ?_
      rw [Array.setIfInBounds_comm _ _ hjk.symm, c2]
      exact hk vi vj vk w3 (hb12.trans (hb3.mono hb12.size)) ((hS.step hb12).step hb3) (bi _ _ _ (bi _ _ _ hV1 hb2) hb3) hV3 (bk _ _ _ hV2 hb3)
  · refine op_call hok wk (hek w) hS (hck w (Below.refl _ _)) fun vk w1 hb1 hV1 => ?_
    refine wpAnyH_all r2 (by simp) fun q hq => ?_
    obtain rfl : q = i := by simpa using hq
    obtain ⟨vi, w2, he, hV2, hb2⟩ := hei w1 hb1
    have hb12 := hb1.trans (hb2.mono hb1.size)
    refine op_val hi (wi' vk) ((hei' vk w1).trans he) (hS.step hb1) hb2 ?_
    rw [Array.setIfInBounds_comm _ _ hik.symm, c1]
    refine wpAnyH_all r4 (by simp) fun q hq => ?_
    obtain rfl : q = j := by simpa using hq
    refine op_call hj (wj2 vi vk) (hej' vi vk w2) (hS.step hb12) (hcj vi w2 hb12 hV2) fun vj w3 hb3 hV3 => ?_
    rw [Array.setIfInBounds_comm _ _ hjk.symm, c2]
    exact hk vi vj vk w3 (hb12.trans (hb3.mono hb12.size)) ((hS.step hb12).step hb3) (bi _ _ _ hV2 hb3) hV3 (bk _ _ _ (bk _ _ _ hV1 hb2) hb3)
/-- One operation alone may come up, that is no call: it lays new blocks at most. -/
theorem any_op {W0 : World} {i : Nat} {o : Oper} {v : Value} {fuel : Nat} {listed : Array Bool} {a : Act} {w w' : World}
    (hi : ops[i]? = some o) (hr : Region.ready md ops listed = [i]) (hw : Region.wanted o (yielded ops a.tmps) = true) (he : (execOp a.eval o).run P w = .ok (.value v) w') (hS : LS W0 w)
    (hb : Below w.heap.size w w') (hk : LS W0 w' → wpAnyH P md ops Q (LS W0) fuel (listed.setIfInBounds i true) (a.put o.dst v) w') : wpAnyH P md ops Q (LS W0) (fuel + 1) listed a w := by
  refine wpAnyH_all hr (by simp) fun j hj => ?_
  obtain rfl : j = i := by simpa using hj
  unfold wpOp
  simp only [hi]
  rw [if_pos hw]
  refine .inl ?_
  unfold Oper.wp
  rw [he]
  simp only [Oper.upon]
  exact ⟨hS.step hb, hk (hS.step hb)⟩
/-! The same, the slot that is written told by its number. -/
theorem any_take {S : World → Prop} {i : Nat} {oi : Oper} (d : Option Tmp) (v : Value) {fuel : Nat} {listed : Array Bool} {a : Act} {w : World} (hi : ops[i]? = some oi) (hd : oi.dst = d)
    (hs : Region.noSelect ops = true) (hf : Region.free md ops listed i = true) (hr : (Region.ready md ops listed).contains i = true)
    (hQ : ∀ c a w, Q (.panic c) (a.put d v) w → Q (.panic c) a w) (hy : YieldsIf P ops S oi v a) (hS : S w)
    (h : wpAnyH P md ops Q S fuel (listed.setIfInBounds i true) (a.put d v) w) : wpAnyH P md ops Q S (fuel + 1) listed a w := by
  subst hd; exact wpAnyH_take hi hs hf hr hQ hy hS h
theorem any_one_d {W0 : World} {i : Nat} {o : Oper} (d : Option Tmp) {f : FuncId} {args : Array Value} {V : Value → World → Prop} {fuel : Nat} {listed : Array Bool} {a : Act} {w : World}
    (hi : ops[i]? = some o) (hd : o.dst = d) (hr : Region.ready md ops listed = [i]) (hw : Region.wanted o (yielded ops a.tmps) = true) (he : (execOp a.eval o).run P w = .ok (.enter f args) w) (hS : LS W0 w)
    (hc : Gives P f args w V) (hk : ∀ v w', Below w.heap.size w w' → LS W0 w' → V v w' → wpAnyH P md ops Q (LS W0) fuel (listed.setIfInBounds i true) (a.put d v) w') : wpAnyH P md ops Q (LS W0) (fuel + 1) listed a w := by
  subst hd; exact any_one hi hr hw he hS hc hk
theorem any_op_d {W0 : World} {i : Nat} {o : Oper} (d : Option Tmp) {v : Value} {fuel : Nat} {listed : Array Bool} {a : Act} {w w' : World}
    (hi : ops[i]? = some o) (hd : o.dst = d) (hr : Region.ready md ops listed = [i]) (hw : Region.wanted o (yielded ops a.tmps) = true) (he : (execOp a.eval o).run P w = .ok (.value v) w') (hS : LS W0 w)
    (hb : Below w.heap.size w w') (hk : LS W0 w' → wpAnyH P md ops Q (LS W0) fuel (listed.setIfInBounds i true) (a.put d v) w') : wpAnyH P md ops Q (LS W0) (fuel + 1) listed a w := by
  subst hd; exact any_op hi hr hw he hS hb hk
end Go.Proofs.Ytfoangiphbmipaa
/- A drawn region by numbers, at the wide fence (in a function that ranges over functions). Nothing here speaks of the program. -/
namespace Go.Proofs.Ytfoangiphbmipaa
open Go.RowKit
section
variable {n : Nat} {P : Program} {ops : Array Oper} {Q : Exit → Act → World → Prop} {md : Region.Mode} {S : World → Prop}
theorem wideFn (f : FuncId) : Fence.wide.fn f := trivial
theorem yif_wpOpIn {i : Nat} {o : Oper} {v : Value} {a : Act} (hi : ops[i]? = some o) (hy : YieldsIf P ops S o v a)
    {K : Act → World → Prop} {w : World} (hS : S w) (h : K (a.put o.dst v) w) : wpOpIn Fence.wide n P ops Q i K a w := by
  unfold Go.wpOpIn
  simp only [hi]
  rcases hy with ⟨hw, hv⟩ | ⟨hw, rfl⟩
  · simp only [hw, if_true, Oper.wpIn]
    refine ⟨fun f _ => wideFn f, ?_⟩
    rw [show Fence.wide.round = none from rfl, Oper.semAt_none, hv w hS]
    exact h
  · simp only [hw, Bool.false_eq_true, if_false]
    exact ⟨fun f _ => wideFn f, h⟩
theorem wpOpIn_putIf {j : Nat} {oi oj : Oper} {v : Value} (hj : ops[j]? = some oj) (hap : oi.apart ops oj = true)
    (hsi : ∀ cs b, oi.op ≠ .select cs b) (hsj : ∀ cs b, oj.op ≠ .select cs b)
    (hQ : ∀ c a w, Q (.panic c) (a.put oi.dst v) w → Q (.panic c) a w) {K : Act → World → Prop} {a : Act} {w : World}
    (hy : YieldsIf P ops S oi v a) (h : wpOpIn Fence.wide n P ops Q j K (a.put oi.dst v) w) :
    wpOpIn Fence.wide n P ops Q j (fun a' w' => YieldsIf P ops S oi v a' ∧ K (a'.put oi.dst v) w') a w := by
  obtain ⟨h1, h2, h3⟩ := Oper.apart_spec hap
  have keep : ∀ (a : Act), YieldsIf P ops S oi v a → ∀ u, YieldsIf P ops S oi v (a.put oj.dst u) := fun a hy u =>
    hy.of_same (execOp_put oi hsi a oj.dst u h3) (wanted_put oi a oj.dst u h3)
  have keepD : ∀ d, YieldsIf P ops S oi v { a with defers := d :: a.defers } := fun d => hy.of_same rfl rfl
  unfold Go.wpOpIn at *
  simp only [hj] at *
  rw [wanted_put oj a oi.dst v h1] at h
  split
  · rename_i hw
    simp only [hw, if_true] at h
    unfold Oper.wpIn at *
    refine ⟨fun f _ => wideFn f, ?_⟩
    have h := h.2
    rw [show Fence.wide.round = none from rfl, Oper.semAt_none, execOp_put oj hsj a oi.dst v h1] at h
    rw [show Fence.wide.round = none from rfl, Oper.semAt_none]
    generalize (execOp a.eval oj).run P w = r at *
    cases r with
    | ok x w' =>
      cases x <;> simp only [Oper.uponIn] at h ⊢
      case value u => exact ⟨keep a hy u, by rw [← Act.put_comm a v u h2]; exact h⟩
      case skip => exact ⟨keep a hy _, by rw [← Act.put_comm a v undef h2]; exact h⟩
      case defer d =>
        refine ⟨keep _ (keepD d) _, ?_⟩
        rw [← Act.put_comm _ v undef h2, ← Act.put_defers]
        exact h
      case enter f args =>
        refine ⟨h.1, CallsIn.mono h.2 fun e w'' he => ?_⟩
        cases e with
        | returned u => exact ⟨keep a hy u, by rw [← Act.put_comm a v u h2]; exact he⟩
        | panicked c => exact hQ _ _ _ he
        | outgrown => exact he
      case row row args => exact ⟨h.1, RowsIn.mono h.2 fun u w'' he => ⟨keep a hy u, by rw [← Act.put_comm a v u h2]; exact he⟩⟩
      case round l f tmps assign body =>
        refine ⟨h.1, RoundIn.mono h.2 fun e w'' he => ?_⟩
        cases e with
        | returned u => exact ⟨keep a hy u, by rw [← Act.put_comm a v u h2]; exact he⟩
        | panicked c => exact hQ _ _ _ he
        | outgrown => exact he
    | halt x w' =>
      cases x <;> simp only [Oper.uponIn] at h ⊢
      case panic u => exact hQ _ _ _ h
  · rename_i hw
    simp only [hw] at h
    exact ⟨fun f _ => wideFn f, keep a hy _, by rw [← Act.put_comm a v undef h2]; exact h.2⟩
/-- Whatever order is picked from here on, and S holds behind every operation that is carried out. -/
def wpAnyHI (n : Nat) (P : Program) (md : Region.Mode) (ops : Array Oper) (Q : Exit → Act → World → Prop) (S : World → Prop) : Nat → Array Bool → Act → World → Prop
  | 0, listed, a, w => Region.ready md ops listed = [] ∧ Q .normal a w
  | fuel + 1, listed, a, w =>
    (Region.ready md ops listed = [] → Q .normal a w) ∧
    ∀ i ∈ Region.ready md ops listed, wpOpIn Fence.wide n P ops Q i (fun a' w' => S w' ∧ wpAnyHI n P md ops Q S fuel (listed.setIfInBounds i true) a' w') a w
theorem wpAnyIn_of_heldI : ∀ (fuel : Nat) (listed : Array Bool) (a : Act) (w : World), wpAnyHI n P md ops Q S fuel listed a w → wpAnyIn Fence.wide n P md ops Q fuel listed a w
  | 0, _, _, _, h => h
  | fuel + 1, _, _, _, h => ⟨h.1, fun i hi => wpOpIn_mono (fun a' w' h' => wpAnyIn_of_heldI fuel _ a' w' h'.2) (h.2 i hi)⟩
theorem wpAnyHI_first {i : Nat} {oi : Oper} {v : Value} (hi : ops[i]? = some oi) (hsel : ∀ (j : Nat) (o : Oper) cs b, ops[j]? = some o → o.op ≠ .select cs b)
    (hQ : ∀ c a w, Q (.panic c) (a.put oi.dst v) w → Q (.panic c) a w) :
    ∀ (fuel : Nat) (listed : Array Bool) (a : Act) (w : World),
      (∀ j oj, ops[j]? = some oj → j ≠ i → listed.getD j true = false → (∀ e ∈ oj.after, Region.binds md e = true → e.on ≠ i) → oi.apart ops oj = true) →
      i ∈ Region.ready md ops listed → YieldsIf P ops S oi v a → S w →
      wpAnyHI n P md ops Q S fuel (listed.setIfInBounds i true) (a.put oi.dst v) w → wpAnyHI n P md ops Q S (fuel + 1) listed a w := by
  intro fuel
  induction fuel with
  | zero =>
    intro listed a w _ hr hy hS H
    refine ⟨fun h => (by rw [h] at hr; cases hr), fun j hj => ?_⟩
    by_cases hji : j = i
    · subst hji; exact yif_wpOpIn hi hy hS ⟨hS, H⟩
    · have := ready_mono hj hji
      rw [H.1] at this
      cases this
  | succ fuel ih =>
    intro listed a w hfree hr hy hS H
    refine ⟨fun h => (by rw [h] at hr; cases hr), fun j hj => ?_⟩
    by_cases hji : j = i
    · subst hji; exact yif_wpOpIn hi hy hS ⟨hS, H⟩
    · have h1 := H.2 j (ready_mono hj hji)
      obtain ⟨hjun, oj, hoj, hall⟩ := mem_ready.1 hj
      have hnot : ∀ e ∈ oj.after, Region.binds md e = true → e.on ≠ i := fun e he hb heq => by
        have h1 := hall e he hb
        have h0 := (mem_ready.1 hr).1
        rw [heq] at h1
        rcases Nat.lt_or_ge i listed.size with h' | h'
        · simp [h'] at h0 h1; rw [h0] at h1; cases h1
        · simp [Array.getElem?_eq_none h'] at h1
      have h2 := wpOpIn_putIf hoj (hfree j oj hoj hji hjun hnot) (fun cs b => hsel i oi cs b hi) (fun cs b => hsel j oj cs b hoj) hQ hy h1
      have hfree' : ∀ k ok, ops[k]? = some ok → k ≠ i → (listed.setIfInBounds j true).getD k true = false →
          (∀ e ∈ ok.after, Region.binds md e = true → e.on ≠ i) → oi.apart ops ok = true := fun k ok hk hki hun hno => by
        refine hfree k ok hk hki ?_ hno
        by_cases hjk : j = k
        · subst hjk; exact hjun
        · rw [getD_set_ne true hjk] at hun; exact hun
      refine wpOpIn_mono (fun a' w' h3 => ⟨h3.2.1, ih (listed.setIfInBounds j true) a' w' hfree' (ready_mono hr (Ne.symm hji)) h3.1 h3.2.1 ?_⟩) h2
      rw [Array.setIfInBounds_comm _ _ hji]
      exact h3.2.2
theorem wpAnyHI_take {i : Nat} {oi : Oper} {v : Value} {fuel : Nat} {listed : Array Bool} {a : Act} {w : World} (hi : ops[i]? = some oi)
    (hs : Region.noSelect ops = true) (hf : Region.free md ops listed i = true) (hr : (Region.ready md ops listed).contains i = true)
    (hQ : ∀ c a w, Q (.panic c) (a.put oi.dst v) w → Q (.panic c) a w) (hy : YieldsIf P ops S oi v a) (hS : S w)
    (h : wpAnyHI n P md ops Q S fuel (listed.setIfInBounds i true) (a.put oi.dst v) w) : wpAnyHI n P md ops Q S (fuel + 1) listed a w :=
  wpAnyHI_first hi (Region.noSelect_spec hs) hQ fuel listed a w (Region.free_spec hi hf) (by simpa using hr) hy hS h
theorem wpAnyHI_all {rs : List Nat} {fuel : Nat} {listed : Array Bool} {a : Act} {w : World} (hr : Region.ready md ops listed = rs) (hne : rs ≠ [])
    (h : ∀ i ∈ rs, wpOpIn Fence.wide n P ops Q i (fun a' w' => S w' ∧ wpAnyHI n P md ops Q S fuel (listed.setIfInBounds i true) a' w') a w) : wpAnyHI n P md ops Q S (fuel + 1) listed a w :=
  ⟨fun h0 => absurd (hr ▸ h0) hne, hr ▸ h⟩
theorem wpAnyHI_done {listed : Array Bool} {a : Act} {w : World} (hr : Region.ready md ops listed = []) (h : Q .normal a w) :
    ∀ fuel, wpAnyHI n P md ops Q S fuel listed a w
  | 0 => ⟨hr, h⟩
  | _ + 1 => ⟨fun _ => h, by rw [hr]; simp⟩
theorem wpI_region_held {id : Nat} {a : Act} {w : World} (hm : P.follows .mixedOrders = true)
    (h : wpAnyHI n P .any ops Q S ops.size (Array.replicate ops.size false) a { w with drawn := w.drawn + 1 }) : (Code.region id ops true).wpIn Fence.wide n P Q a w :=
  wpIn_region_any hm (wpAnyIn_of_heldI _ _ _ _ h)
/-! By numbers. -/
theorem iny_take {i : Nat} {oi : Oper} (d : Option Tmp) (v : Value) {fuel : Nat} {listed : Array Bool} {a : Act} {w : World} (hi : ops[i]? = some oi) (hd : oi.dst = d)
    (hs : Region.noSelect ops = true) (hf : Region.free md ops listed i = true) (hr : (Region.ready md ops listed).contains i = true)
    (hQ : ∀ c a w, Q (.panic c) (a.put d v) w → Q (.panic c) a w) (hy : YieldsIf P ops S oi v a) (hS : S w)
    (h : wpAnyHI n P md ops Q S fuel (listed.setIfInBounds i true) (a.put d v) w) : wpAnyHI n P md ops Q S (fuel + 1) listed a w := by
  subst hd; exact wpAnyHI_take hi hs hf hr hQ hy hS h
theorem inps_call {o : Oper} {i : Nat} {d : Option Tmp} {f : FuncId} {args : Array Value} {a : Act} {w : World} {K : Act → World → Prop}
    (hi : ops[i]? = some o) (hd : o.dst = d) (hw : Region.wanted o (yielded ops a.tmps) = true) (he : (execOp a.eval o).run P w = .ok (.enter f args) w)
    (hc : Calls P f args w fun e w' => ∃ v, e = .returned v ∧ S w' ∧ K (a.put d v) w') : wpOpIn Fence.wide n P ops Q i (fun a' w' => S w' ∧ K a' w') a w := by
  subst hd
  unfold Go.wpOpIn
  simp only [hi]
  rw [if_pos hw]
  unfold Oper.wpIn
  refine ⟨fun f _ => wideFn f, ?_⟩
  rw [show Fence.wide.round = none from rfl, Oper.semAt_none, he]
  refine ⟨fun h => (by cases h), (callsIn_wide.2 hc).mono fun e w' ⟨v, hv, hS, hk⟩ => ?_⟩
  subst hv
  exact ⟨hS, hk⟩
theorem inps_val {o : Oper} {i : Nat} {d : Option Tmp} {v : Value} {a : Act} {w w' : World} {K : Act → World → Prop}
    (hi : ops[i]? = some o) (hd : o.dst = d) (hw : Region.wanted o (yielded ops a.tmps) = true) (he : (execOp a.eval o).run P w = .ok (.value v) w') (hS : S w')
    (hk : K (a.put d v) w') : wpOpIn Fence.wide n P ops Q i (fun a' w' => S w' ∧ K a' w') a w := by
  subst hd
  unfold Go.wpOpIn
  simp only [hi]
  rw [if_pos hw]
  unfold Oper.wpIn
  refine ⟨fun f _ => wideFn f, ?_⟩
  rw [show Fence.wide.round = none from rfl, Oper.semAt_none, he]
  exact ⟨hS, hk⟩
theorem inps_skip {o : Oper} {i : Nat} {a : Act} {w w' : World} {K : Act → World → Prop}
    (hi : ops[i]? = some o) (hw : Region.wanted o (yielded ops a.tmps) = true) (he : (execOp a.eval o).run P w = .ok .skip w') (hS : S w')
    (hd : o.dst = none) (hk : K a w') : wpOpIn Fence.wide n P ops Q i (fun a' w' => S w' ∧ K a' w') a w := by
  unfold Go.wpOpIn
  simp only [hi]
  rw [if_pos hw]
  unfold Oper.wpIn
  refine ⟨fun f _ => wideFn f, ?_⟩
  rw [show Fence.wide.round = none from rfl, Oper.semAt_none, he]
  simp only [Oper.uponIn]
  rw [hd]
  exact ⟨hS, hk⟩
end
section
variable {n : Nat} {P : Program} {ops : Array Oper} {Q : Exit → Act → World → Prop} {md : Region.Mode}
theorem iny_one_d {W0 : World} {i : Nat} {o : Oper} (d : Option Tmp) {f : FuncId} {args : Array Value} {V : Value → World → Prop} {fuel : Nat} {listed : Array Bool} {a : Act} {w : World}
    (hi : ops[i]? = some o) (hd : o.dst = d) (hr : Region.ready md ops listed = [i]) (hw : Region.wanted o (yielded ops a.tmps) = true) (he : (execOp a.eval o).run P w = .ok (.enter f args) w) (hS : LS W0 w)
    (hc : Gives P f args w V) (hk : ∀ v w', Below w.heap.size w w' → LS W0 w' → V v w' → wpAnyHI n P md ops Q (LS W0) fuel (listed.setIfInBounds i true) (a.put d v) w') : wpAnyHI n P md ops Q (LS W0) (fuel + 1) listed a w := by
  refine wpAnyHI_all hr (by simp) fun j hj => ?_
  obtain rfl : j = i := by simpa using hj
  exact inps_call hi hd hw he (hc.mono fun e w' ⟨v, hv, hV, hb⟩ => ⟨v, hv, hS.step hb, hk v w' hb (hS.step hb) hV⟩)
end
/-- Nothing that stood in W0 has turned, but for one block's first cell, where it may be. -/
def LSX (W0 : World) (b : Nat) (W : World) : Prop := ∃ W1, LS W0 W1 ∧ (W = W1 ∨ ∃ v, W = W1.setCell ⟨b, 0, none⟩ v)
theorem LS.x {W0 W : World} (h : LS W0 W) (b : Nat) : LSX W0 b W := ⟨W, h, .inl rfl⟩
theorem LSX.blk {W0 W : World} {b : Nat} (h : LSX W0 b W) : ∃ W1, LS W0 W1 ∧ ∀ j, j ≠ b → W.heap[j]? = W1.heap[j]? := by
  obtain ⟨W1, h1, rfl | ⟨v, rfl⟩⟩ := h
  · exact ⟨_, h1, fun _ _ => rfl⟩
  · exact ⟨W1, h1, fun j hj => Below.heap_setCell _ _ _ _ (by simpa using hj)⟩
section
variable {n : Nat} {P : Program} {ops : Array Oper} {Q : Exit → Act → World → Prop} {md : Region.Mode}
theorem iny_one_x {W0 : World} {b i : Nat} {o : Oper} (d : Option Tmp) {f : FuncId} {args : Array Value} {V : Value → World → Prop} {fuel : Nat} {listed : Array Bool} {a : Act} {w : World}
    (hi : ops[i]? = some o) (hd : o.dst = d) (hr : Region.ready md ops listed = [i]) (hw : Region.wanted o (yielded ops a.tmps) = true) (he : (execOp a.eval o).run P w = .ok (.enter f args) w) (hS : LS W0 w)
    (hc : Gives P f args w V) (hk : ∀ v w', Below w.heap.size w w' → LS W0 w' → V v w' → wpAnyHI n P md ops Q (LSX W0 b) fuel (listed.setIfInBounds i true) (a.put d v) w') : wpAnyHI n P md ops Q (LSX W0 b) (fuel + 1) listed a w := by
  refine wpAnyHI_all hr (by simp) fun j hj => ?_
  obtain rfl : j = i := by simpa using hj
  exact inps_call hi hd hw he (hc.mono fun e w' ⟨v, hv, hV, hb⟩ => ⟨v, hv, (hS.step hb).x b, hk v w' hb (hS.step hb) hV⟩)
end
end Go.Proofs.Ytfoangiphbmipaa
