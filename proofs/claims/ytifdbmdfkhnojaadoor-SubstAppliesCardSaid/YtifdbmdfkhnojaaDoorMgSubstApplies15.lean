/- Texts of one proof, one behind the other. -/
import Derived.OrdersHeld
import Derived.Deep.RegionHeld3
import Derived.Below
import Derived.WalkKit
import Derived.Test.YtifdbmdfkhnojaaDoorMgSubstApplies7
import Derived.Test.YtifdbmdfkhnojaaDoorMgSubstApplies2
/- Regions that hold many calls in a row, two and two beside each other: what each pair leaves is walked once. Nothing here speaks of the program. -/
namespace Go.Proofs.YtifdbmdfkhnojaaDoor
open Go.RowKit
variable {P : Program} {ops : Array Oper} {Q : Exit → Act → World → Prop} {md : Region.Mode}

/-- Nothing that stood in W0 has turned. -/
def LS (W0 : World) (w : World) : Prop := Below W0.heap.size W0 w
theorem LS.step {W0 w w' : World} (h : LS W0 w) (hb : Below w.heap.size w w') : LS W0 w' := Below.trans h (hb.mono h.size)
/-- What bears that new blocks are laid. -/
def Bears (V : Value → World → Prop) : Prop := ∀ v w w', V v w → Below w.heap.size w w' → V v w'
theorem bears_eq (u : Value) : Bears (fun v _ => v = u) := fun _ _ _ h _ => h
/-- A call's contract: new blocks alone, and what is known of its value. -/
abbrev Gives (P : Program) (f : FuncId) (args : Array Value) (w : World) (V : Value → World → Prop) : Prop :=
  Calls P f args w fun e w' => ∃ v, e = .returned v ∧ V v w' ∧ Below w.heap.size w w'
theorem gives_of {f : FuncId} {args : Array Value} {w : World} {u : Value} (h : Calls P f args w fun e w' => e = .returned u ∧ Below w.heap.size w w') : Gives P f args w (fun v _ => v = u) := h.mono fun _ _ ⟨h1, h2⟩ => ⟨u, h1, rfl, h2⟩
theorem op_call {W0 : World} {o : Oper} {i : Nat} {f : FuncId} {args : Array Value} {V : Value → World → Prop} {a : Act} {w : World} {K : Act → World → Prop}
    (hi : ops[i]? = some o) (hw : Region.wanted o (yielded ops a.tmps) = true) (he : (execOp a.eval o).run P w = .ok (.enter f args) w) (hS : LS W0 w)
    (hc : Gives P f args w V) (hk : ∀ v w', Below w.heap.size w w' → V v w' → K (a.put o.dst v) w') : wpOp P ops Q i (fun a' w' => LS W0 w' ∧ K a' w') a w := by
  unfold wpOp
  simp only [hi]
  rw [if_pos hw]
  refine .inl ?_
  unfold Oper.wp
  rw [he]
  simp only [Oper.upon]
  refine hc.mono fun e w' ⟨v, hv, hV, hb⟩ => ?_
  subst hv
  exact ⟨hS.step hb, hk v w' hb hV⟩
/-- One call alone may come up. -/
theorem any_one {W0 : World} {i : Nat} {o : Oper} {f : FuncId} {args : Array Value} {V : Value → World → Prop} {fuel : Nat} {listed : Array Bool} {a : Act} {w : World}
    (hi : ops[i]? = some o) (hr : Region.ready md ops listed = [i]) (hw : Region.wanted o (yielded ops a.tmps) = true) (he : (execOp a.eval o).run P w = .ok (.enter f args) w) (hS : LS W0 w)
    (hc : Gives P f args w V) (hk : ∀ v w', Below w.heap.size w w' → LS W0 w' → V v w' → wpAnyH P md ops Q (LS W0) fuel (listed.setIfInBounds i true) (a.put o.dst v) w') : wpAnyH P md ops Q (LS W0) (fuel + 1) listed a w := by
  refine wpAnyH_all hr (by simp) fun j hj => ?_
  obtain rfl : j = i := by simpa using hj
  exact op_call hi hw he hS hc fun v w' hb hV => hk v w' hb (hS.step hb) hV
/-- Two calls may come up, in either order. -/
theorem any_two {W0 : World} {i j : Nat} {oi oj : Oper} {fi fj : FuncId} {ai aj : Array Value} {Vi Vj : Value → World → Prop} {fuel : Nat} {listed : Array Bool} {a : Act} {w : World}
    (hi : ops[i]? = some oi) (hj : ops[j]? = some oj) (hij : i ≠ j) (hr : Region.ready md ops listed = [i, j])
    (hri : Region.ready md ops (listed.setIfInBounds i true) = [j]) (hrj : Region.ready md ops (listed.setIfInBounds j true) = [i])
    (hwi : Region.wanted oi (yielded ops a.tmps) = true) (hwj : Region.wanted oj (yielded ops a.tmps) = true)
    (hwi' : ∀ v, Region.wanted oi (yielded ops (a.put oj.dst v).tmps) = true) (hwj' : ∀ v, Region.wanted oj (yielded ops (a.put oi.dst v).tmps) = true)
    (hei : ∀ w, (execOp a.eval oi).run P w = .ok (.enter fi ai) w) (hej : ∀ w, (execOp a.eval oj).run P w = .ok (.enter fj aj) w)
    (hei' : ∀ v w, (execOp (a.put oj.dst v).eval oi).run P w = .ok (.enter fi ai) w) (hej' : ∀ v w, (execOp (a.put oi.dst v).eval oj).run P w = .ok (.enter fj aj) w)
    (hcomm : ∀ vi vj, (a.put oj.dst vj).put oi.dst vi = (a.put oi.dst vi).put oj.dst vj) (hS : LS W0 w) (bi : Bears Vi) (bj : Bears Vj)
    (hci : ∀ w1, Below w.heap.size w w1 → Gives P fi ai w1 Vi) (hcj : ∀ w1, Below w.heap.size w w1 → Gives P fj aj w1 Vj)
    (hk : ∀ vi vj w', Below w.heap.size w w' → LS W0 w' → Vi vi w' → Vj vj w' → wpAnyH P md ops Q (LS W0) fuel ((listed.setIfInBounds i true).setIfInBounds j true) ((a.put oi.dst vi).put oj.dst vj) w') : wpAnyH P md ops Q (LS W0) (fuel + 2) listed a w := by
  refine wpAnyH_all hr (by simp) fun k hk' => ?_
  rcases (by simpa using hk' : k = i ∨ k = j) with rfl | rfl
  · refine op_call hi hwi (hei w) hS (hci w (Below.refl _ _)) fun vi w1 hb1 hV1 => ?_
    refine wpAnyH_all hri (by simp) fun k hk' => ?_
    obtain rfl : k = j := by simpa using hk'
    refine op_call hj (hwj' vi) (hej' vi w1) (hS.step hb1) (hcj w1 hb1) fun vj w2 hb2 hV2 => ?_
    exact hk vi vj w2 (hb1.trans (hb2.mono hb1.size)) ((hS.step hb1).step hb2) (bi _ _ _ hV1 hb2) hV2
  · refine op_call hj hwj (hej w) hS (hcj w (Below.refl _ _)) fun vj w1 hb1 hV1 => ?_
    refine wpAnyH_all hrj (by simp) fun k hk' => ?_
    obtain rfl : k = i := by simpa using hk'
    refine op_call hi (hwi' vj) (hei' vj w1) (hS.step hb1) (hci w1 hb1) fun vi w2 hb2 hV2 => ?_
    rw [Array.setIfInBounds_comm _ _ hij.symm, hcomm]
    exact hk vi vj w2 (hb1.trans (hb2.mono hb1.size)) ((hS.step hb1).step hb2) hV2 (bj _ _ _ hV1 hb2)
theorem op_val {W0 : World} {o : Oper} {i : Nat} {v : Value} {a : Act} {w w' : World} {K : Act → World → Prop}
    (hi : ops[i]? = some o) (hw : Region.wanted o (yielded ops a.tmps) = true) (he : (execOp a.eval o).run P w = .ok (.value v) w') (hS : LS W0 w) (hb : Below w.heap.size w w')
    (hk : K (a.put o.dst v) w') : wpOp P ops Q i (fun a' w' => LS W0 w' ∧ K a' w') a w := by
  unfold wpOp
  simp only [hi]
  rw [if_pos hw]
  refine .inl ?_
  unfold Oper.wp
  rw [he]
  simp only [Oper.upon]
  exact ⟨hS.step hb, hk⟩
/-- Two may come up: a new block, behind which comes a call that takes it; and a call. -/
theorem any_three {W0 : World} {i j k : Nat} {oi oj ok : Oper} {fj fk : FuncId} {aj : Value → Array Value} {ak : Array Value} {Vi Vj Vk : Value → World → Prop} {fuel : Nat} {listed : Array Bool} {a : Act} {w : World}
    (hi : ops[i]? = some oi) (hj : ops[j]? = some oj) (hok : ops[k]? = some ok) (hik : i ≠ k) (hjk : j ≠ k)
    (r0 : Region.ready md ops listed = [i, k]) (r1 : Region.ready md ops (listed.setIfInBounds i true) = [j, k]) (r2 : Region.ready md ops (listed.setIfInBounds k true) = [i])
    (r3 : Region.ready md ops ((listed.setIfInBounds i true).setIfInBounds j true) = [k]) (r4 : Region.ready md ops ((listed.setIfInBounds i true).setIfInBounds k true) = [j])
    (wi : Region.wanted oi (yielded ops a.tmps) = true) (wk : Region.wanted ok (yielded ops a.tmps) = true)
    (wi' : ∀ v, Region.wanted oi (yielded ops (a.put ok.dst v).tmps) = true) (wj : ∀ v, Region.wanted oj (yielded ops (a.put oi.dst v).tmps) = true) (wk' : ∀ v, Region.wanted ok (yielded ops (a.put oi.dst v).tmps) = true)
    (wk2 : ∀ v v2, Region.wanted ok (yielded ops ((a.put oi.dst v).put oj.dst v2).tmps) = true) (wj2 : ∀ v v2, Region.wanted oj (yielded ops ((a.put oi.dst v).put ok.dst v2).tmps) = true)
    (hei : ∀ w1, Below w.heap.size w w1 → ∃ v w2, (execOp a.eval oi).run P w1 = .ok (.value v) w2 ∧ Vi v w2 ∧ Below w1.heap.size w1 w2) (hei' : ∀ v w, (execOp (a.put ok.dst v).eval oi).run P w = (execOp a.eval oi).run P w)
    (hej : ∀ v w, (execOp (a.put oi.dst v).eval oj).run P w = .ok (.enter fj (aj v)) w) (hej' : ∀ v v2 w, (execOp ((a.put oi.dst v).put ok.dst v2).eval oj).run P w = .ok (.enter fj (aj v)) w)
    (hek : ∀ w, (execOp a.eval ok).run P w = .ok (.enter fk ak) w) (hek1 : ∀ v w, (execOp (a.put oi.dst v).eval ok).run P w = .ok (.enter fk ak) w) (hek2 : ∀ v v2 w, (execOp ((a.put oi.dst v).put oj.dst v2).eval ok).run P w = .ok (.enter fk ak) w)
    (c1 : ∀ vi vk, (a.put ok.dst vk).put oi.dst vi = (a.put oi.dst vi).put ok.dst vk) (c2 : ∀ vi vj vk, ((a.put oi.dst vi).put ok.dst vk).put oj.dst vj = ((a.put oi.dst vi).put oj.dst vj).put ok.dst vk) (hS : LS W0 w)
    (bi : Bears Vi) (bj : Bears Vj) (bk : Bears Vk)
    (hcj : ∀ v w1, Below w.heap.size w w1 → Vi v w1 → Gives P fj (aj v) w1 Vj) (hck : ∀ w1, Below w.heap.size w w1 → Gives P fk ak w1 Vk)
    (hk : ∀ vi vj vk w', Below w.heap.size w w' → LS W0 w' → Vi vi w' → Vj vj w' → Vk vk w' → wpAnyH P md ops Q (LS W0) fuel (((listed.setIfInBounds i true).setIfInBounds j true).setIfInBounds k true) (((a.put oi.dst vi).put oj.dst vj).put ok.dst vk) w') : wpAnyH P md ops Q (LS W0) (fuel + 3) listed a w := by
  refine wpAnyH_all r0 (by simp) fun q hq => ?_
  rcases (by simpa using hq : q = i ∨ q = k) with rfl | rfl
  · obtain ⟨vi, w1, he, hV1, hb1⟩ := hei w (Below.refl _ _)
    refine op_val hi wi he hS hb1 ?_
    refine wpAnyH_all r1 (by simp) fun q hq => ?_
    rcases (by simpa using hq : q = j ∨ q = k) with rfl | rfl
    · refine op_call hj (wj vi) (hej vi w1) (hS.step hb1) (hcj vi w1 hb1 hV1) fun vj w2 hb2 hV2 => ?_
      have hb12 := hb1.trans (hb2.mono hb1.size)
      refine wpAnyH_all r3 (by simp) fun q hq => ?_
      obtain rfl : q = k := by simpa using hq
      refine op_call hok (wk2 vi vj) (hek2 vi vj w2) (hS.step hb12) (hck w2 hb12) fun vk w3 hb3 hV3 => ?_
      exact hk vi vj vk w3 (hb12.trans (hb3.mono hb12.size)) ((hS.step hb12).step hb3) (bi _ _ _ (bi _ _ _ hV1 hb2) hb3) (bj _ _ _ hV2 hb3) hV3
    · refine op_call hok (wk' vi) (hek1 vi w1) (hS.step hb1) (hck w1 hb1) fun vk w2 hb2 hV2 => ?_
      have hb12 := hb1.trans (hb2.mono hb1.size)
      refine wpAnyH_all r4 (by simp) fun q hq => ?_
      obtain rfl : q = j := by simpa using hq
      refine op_call hj (wj2 vi vk) (hej' vi vk w2) (hS.step hb12) (hcj vi w2 hb12 (bi _ _ _ hV1 hb2)) fun vj w3 hb3 hV3 => ?_
      rw [Array.setIfInBounds_comm _ _ hjk.symm, c2]
      exact hk vi vj vk w3 (hb12.trans (hb3.mono hb12.size)) ((hS.step hb12).step hb3) (bi _ _ _ (bi _ _ _ hV1 hb2) hb3) hV3 (bk _ _ _ hV2 hb3)
  · refine op_call hok wk (hek w) hS (hck w (Below.refl _ _)) fun vk w1 hb1 hV1 => ?_
    refine wpAnyH_all r2 (by simp) fun q hq => ?_
    obtain rfl : q = i := by simpa using hq
    obtain ⟨vi, w2, he, hV2, hb2⟩ := hei w1 hb1
    have hb12 := hb1.trans (hb2.mono hb1.size)
    refine op_val hi (wi' vk) ((hei' vk w1).trans he) (hS.step hb1) hb2 ?_
    rw [Array.setIfInBounds_comm _ _ hik.symm, c1]
    refine wpAnyH_all r4 (by simp) fun q hq => ?_
    obtain rfl : q = j := by simpa using hq
    refine op_call hj (wj2 vi vk) (hej' vi vk w2) (hS.step hb12) (hcj vi w2 hb12 hV2) fun vj w3 hb3 hV3 => ?_
    rw [Array.setIfInBounds_comm _ _ hjk.symm, c2]
    exact hk vi vj vk w3 (hb12.trans (hb3.mono hb12.size)) ((hS.step hb12).step hb3) (bi _ _ _ hV2 hb3) hV3 (bk _ _ _ (bk _ _ _ hV1 hb2) hb3)
/-- One operation alone may come up, that is no call: it lays new blocks at most. -/
theorem any_op {W0 : World} {i : Nat} {o : Oper} {v : Value} {fuel : Nat} {listed : Array Bool} {a : Act} {w w' : World}
    (hi : ops[i]? = some o) (hr : Region.ready md ops listed = [i]) (hw : Region.wanted o (yielded ops a.tmps) = true) (he : (execOp a.eval o).run P w = .ok (.value v) w') (hS : LS W0 w)
    (hb : Below w.heap.size w w') (hk : LS W0 w' → wpAnyH P md ops Q (LS W0) fuel (listed.setIfInBounds i true) (a.put o.dst v) w') : wpAnyH P md ops Q (LS W0) (fuel + 1) listed a w := by
  refine wpAnyH_all hr (by simp) fun j hj => ?_
  obtain rfl : j = i := by simpa using hj
  unfold wpOp
  simp only [hi]
  rw [if_pos hw]
  refine .inl ?_
  unfold Oper.wp
  rw [he]
  simp only [Oper.upon]
  exact ⟨hS.step hb, hk (hS.step hb)⟩
/-! The same, the slot that is written told by its number. -/
theorem any_take {S : World → Prop} {i : Nat} {oi : Oper} (d : Option Tmp) (v : Value) {fuel : Nat} {listed : Array Bool} {a : Act} {w : World} (hi : ops[i]? = some oi) (hd : oi.dst = d)
    (hs : Region.noSelect ops = true) (hf : Region.free md ops listed i = true) (hr : (Region.ready md ops listed).contains i = true)
    (hQ : ∀ c a w, Q (.panic c) (a.put d v) w → Q (.panic c) a w) (hy : YieldsIf P ops S oi v a) (hS : S w)
    (h : wpAnyH P md ops Q S fuel (listed.setIfInBounds i true) (a.put d v) w) : wpAnyH P md ops Q S (fuel + 1) listed a w := by
  subst hd; exact wpAnyH_take hi hs hf hr hQ hy hS h
theorem any_one_d {W0 : World} {i : Nat} {o : Oper} (d : Option Tmp) {f : FuncId} {args : Array Value} {V : Value → World → Prop} {fuel : Nat} {listed : Array Bool} {a : Act} {w : World}
    (hi : ops[i]? = some o) (hd : o.dst = d) (hr : Region.ready md ops listed = [i]) (hw : Region.wanted o (yielded ops a.tmps) = true) (he : (execOp a.eval o).run P w = .ok (.enter f args) w) (hS : LS W0 w)
    (hc : Gives P f args w V) (hk : ∀ v w', Below w.heap.size w w' → LS W0 w' → V v w' → wpAnyH P md ops Q (LS W0) fuel (listed.setIfInBounds i true) (a.put d v) w') : wpAnyH P md ops Q (LS W0) (fuel + 1) listed a w := by
  subst hd; exact any_one hi hr hw he hS hc hk
theorem any_op_d {W0 : World} {i : Nat} {o : Oper} (d : Option Tmp) {v : Value} {fuel : Nat} {listed : Array Bool} {a : Act} {w w' : World}
    (hi : ops[i]? = some o) (hd : o.dst = d) (hr : Region.ready md ops listed = [i]) (hw : Region.wanted o (yielded ops a.tmps) = true) (he : (execOp a.eval o).run P w = .ok (.value v) w') (hS : LS W0 w)
    (hb : Below w.heap.size w w') (hk : LS W0 w' → wpAnyH P md ops Q (LS W0) fuel (listed.setIfInBounds i true) (a.put d v) w') : wpAnyH P md ops Q (LS W0) (fuel + 1) listed a w := by
  subst hd; exact any_op hi hr hw he hS hb hk
end Go.Proofs.YtifdbmdfkhnojaaDoor
/- slices.Backward at types: what may come next is known; and the arrows' plain facts. -/
namespace Go.Proofs.YtifdbmdfkhnojaaDoor
open Go.RowKit Go.Shelf
attribute [local go_sem] Oper.semAt_some

/-- What comes behind these: the next from the end, with its place. -/
def NextB (L : List Tr) (pre : List (Int × Tr)) (x : Int × Tr) : Prop := ∃ _ : pre.length < L.length, x = (((L.length - 1 - pre.length : Nat) : Int), L[L.length - 1 - pre.length])
set_option maxRecDepth 100000 in
set_option maxHeartbeats 2000000 in
/-- slices.Backward's closure: the last first, each with its place. -/
theorem back1G (n : Nat) (hn : 1 ≤ n) (l Bs B : Nat) (A : Option Addr) (c : Nat) (L : List Tr) (hL : L.length ≤ 1000000) (J Jx : List (Int × Tr) → World → Prop)
    (hY : ∀ pre x W, J pre W → NextB L pre x → YieldAt Fence.wide (n - 1) Tryd.prog l #[.int .i64 x.1, trV x.2] W fun e W' =>
      (e = .returned (.bool true) ∧ J (pre ++ [x]) W' ∧ KpB B Bs W W') ∨ (e = .returned (.bool false) ∧ Jx (pre ++ [x]) W'))
    (W : World) (hBs : Boxed W Bs 23 (.slice A L.length c)) (hR : RdX B W (.slice A L.length c) L) (h0 : J [] W) :
    CallsIn Fence.wide n Tryd.prog 66 #[.func (.yield l) #[] #[], .pointer (some ⟨Bs, 0, none⟩)] W fun e W' => (∃ v, e = .returned v) ∧
      ((∃ ys : List (Int × Tr), ys.map (·.2) = L.reverse ∧ J ys W') ∨ (∃ pre, Jx pre W')) := by
  refine callsIn_of_wp Tryd.func66 rfl trivial ?_ rfl
  simp only [Tryd.ntmps66, List.size_toArray, List.length_cons, List.length_nil, Nat.reduceAdd, Nat.reduceSub, Array.replicate_succ, Array.replicate_zero, List.push_toArray, List.append_toArray, List.nil_append, List.cons_append]
  have e00 : W.cell? ⟨Bs, 0, none⟩ = some (.slice A L.length c) := hBs.cell
  have HBS := Lib.hid hBs
  clear hBs
  gi_wp2
  gi_loopw [3] (fun i wr => ∃ (k : Nat) (z : Int) (pre : List (Int × Tr)), k ≤ L.length ∧ i = .int .i64 z ∧ z + 1 = k ∧ pre.map (·.2) = (L.drop k).reverse ∧ J pre wr ∧ Below B W wr ∧ Boxed wr Bs 23 (.slice A L.length c))
    (fun i _ => (intOf i + 1).toNat)
  case atStart => exact ⟨L.length, _, [], Nat.le_refl _, rfl, by omega, by simp, h0, Below.refl _ _, HBS.out⟩
  case round =>
    obtain ⟨k, z, pre, hk, rfl, hz, hpre, hJs, hnx, hbx⟩ := hrel
    have e0 : wr.cell? ⟨Bs, 0, none⟩ = some (.slice A L.length c) := hbx.cell
    have HBX := Lib.hid hbx
    clear hbx
    by_cases hk0 : 1 ≤ k
    · obtain ⟨A', c', hv, hf⟩ := hR.below hnx
      injection hv with hv1 _ hv3
      subst hv1; subst hv3
      obtain ⟨b, off, rfl, hlt, hc⟩ := hf (by omega)
      obtain ⟨c0, c1, c2⟩ := hc (k - 1) (by omega)
      have hdrop : L.drop (k - 1) = L[k - 1] :: L.drop k := by
        have := List.drop_eq_getElem_cons (l := L) (i := k - 1) (by omega)
        rwa [show k - 1 + 1 = k by omega] at this
      have hpl : pre.length < L.length := by
        have : (pre.map (·.2)).length = pre.length := by simp
        rw [hpre] at this
        simp at this
        omega
      have hnb : NextB L pre (z, L[k - 1]) := by
        have hpl2 : pre.length = L.length - k := by
          have : (pre.map (·.2)).length = pre.length := by simp
          rw [hpre] at this
          simp at this
          omega
        refine ⟨hpl, ?_⟩
        have e : L.length - 1 - pre.length = k - 1 := by omega
        rw [Prod.mk.injEq]
        exact ⟨by omega, by simp only [e]⟩
      obtain ⟨x, hx⟩ : ∃ x, L[k - 1] = x := ⟨_, rfl⟩
      rw [hx] at c0 c1 c2 hdrop hnb
      obtain ⟨x1, x2, x3⟩ := x
      dsimp only [slv] at c2
      obtain ⟨fn, tmps, assign, body, hy, hR2⟩ := hY pre (z, x1, x2, x3) wr hJs hnb
      dsimp only [trV, slv] at hy
      have f1 : (0 : Int) ≤ z := by omega
      have f2 : z < (L.length : Int) := by omega
      have f3 : z.toNat = k - 1 := by omega
      have f4 : decide ((0 : Int) ≤ z) = true := decide_eq_true f1
      have HZ := Lib.hid hz
      have HP := Lib.hid hpre
      have HD := Lib.hid hdrop
      clear hz hpre hdrop hx hc hf hpl hnb
      gi_wp2
      refine hR2.mono ?_
      rintro e W3 (⟨rfl, hJ3, hk3⟩ | ⟨rfl, hJx3⟩)
      · gi_wp2
        go_roundw
        case rel => exact ⟨k - 1, z - 1, pre ++ [(z, x1, x2, x3)], by omega, by go_num, by have := HZ.out; omega, by simp [HP.out, HD.out], hJ3, hnx.trans hk3.below, hk3.boxed HBX.out⟩
        case measure => simp [intOf]; omega
      · gi_wp2
        refine bodyPost_ret (results_none rfl _ _ _) rfl ?_
        exact ⟨⟨_, rfl⟩, .inr ⟨_, hJx3⟩⟩
    · obtain rfl : k = 0 := by omega
      have f1 : ¬ (0 : Int) ≤ z := by omega
      have f4 : decide ((0 : Int) ≤ z) = false := decide_eq_false f1
      have HP := Lib.hid hpre
      clear hz hpre
      gi_wp2
      go_end0
      exact ⟨⟨_, rfl⟩, .inl ⟨pre, by simpa using HP.out, hJs⟩⟩
theorem back_seqG (n : Nat) (hn : 1 ≤ n) (Bs B : Nat) (t : TypeId) (A : Option Addr) (c : Nat) (L : List Tr) (hL : L.length ≤ 1000000) (w : World) (hBw : B ≤ w.heap.size) (hBs : Boxed w Bs 23 (.slice A L.length c)) (hR : RdX B w (.slice A L.length c) L) :
    SeqG n Tryd.prog 66 #[.pointer (some ⟨Bs, 0, none⟩)] t (fun x : Int × Tr => #[Value.int .i64 x.1, trV x.2]) (KpB B Bs) (fun ys => ys.map (·.2) = L.reverse) (fun _ => True) (NextB L) w := fun l J Jx W hW _ _ hY h0 => by
  have hbs : Boxed W Bs 23 (.slice A L.length c) := (hW.block Bs hBs.lt).trans hBs
  refine (back1G n hn l Bs B A c L hL J Jx hY W hbs (hR.below (hW.mono hBw)) h0).mono ?_
  rintro e W' ⟨he, ⟨ys, hy, hj⟩ | ⟨pre, hj⟩⟩
  · exact ⟨he, .inl ⟨ys, hy, hj⟩⟩
  · exact ⟨he, .inr ⟨pre, trivial, hj⟩⟩
namespace Fo
/-- The arrow from each to the next one: its kind, its number, its parts. -/
def arrF : Fo → Int × Int × Fo
  | nil => (0, 0, nil)
  | cons k n v ps r => if r.len = 0 then (k, n, ps) else (4, 0, cons k n v ps (cons r.arrF.1 r.arrF.2.1 (none, 0, 0) r.arrF.2.2 nil))
theorem len_drop (f : Fo) (j : Nat) : (f.drop j).len = f.len - j := by
  induction f generalizing j with
  | nil => cases j <;> simp [drop, len]
  | cons k n v ps r _ ih =>
    cases j with
    | zero => simp [drop]
    | succ j => simp [drop, len, ih]
theorem top_get (f : Fo) (j : Nat) (hj : j < f.top.length) : f.top[j] = ((f.at_ j).1, (f.at_ j).2.1, (f.at_ j).2.2.1) := by
  induction f generalizing j with
  | nil => simp [top] at hj
  | cons k n v ps r _ ih =>
    cases j with
    | zero => rfl
    | succ j => simpa [top, at_] using ih j (by simpa [top] using hj)
end Fo
/-- Two types, laid as a list's. -/
theorem FreshT.two {T : TypeId} {B : Nat} {w : World} {psx psy : Fo} {kx nx ky ny : Int} {ux uy vx vy : Sl} (hx : FreshT T B w idn psx ux) (hy : FreshT T B w idn psy uy) (c : Nat) (hB : B ≤ c) (hc : w.heap[c]? = some (Obj.cells #[.int .i64 kx, .int .i64 nx, slv ux, .int .i64 ky, .int .i64 ny, slv uy] T)) :
    FreshT T B w idn (.cons kx nx vx psx (.cons ky ny vy psy .nil)) (some ⟨c, 0, none⟩, 2, 2) := by
  intro W hs hk
  obtain ⟨gx, ix, tx⟩ := hx W hs hk
  obtain ⟨gy, iy, ty⟩ := hy W hs hk
  have hcW := hk c _ hB hc
  have cell := fun j => cell_of_row W c j _ _ (0, 0) hcW
  refine ⟨.cons kx nx ux gx (.cons ky ny uy gy .nil), ⟨rfl, (nm_id _ _).symm, ix, rfl, (nm_id _ _).symm, iy, trivial⟩, tyV_cons.2 ⟨c, 0, 2, rfl, Nat.le_refl _, by unfold maxLen; omega, (Array.getElem?_eq_some_iff.1 hcW).1, tyC_cons.2 ⟨cell 0, cell 1, cell 2, tx, tyC_cons.2 ⟨cell 3, cell 4, cell 5, ty, tyC_nil⟩⟩⟩⟩
end Go.Proofs.YtifdbmdfkhnojaaDoor
/- types.Arrow. -/
namespace Go.Proofs.YtifdbmdfkhnojaaDoor
open Go.RowKit Go.Shelf
attribute [local go_sem] Oper.semAt_some

/-- Three cells, stored. -/
theorem set3 {T : TypeId} {w : World} (g : Nat) (x y z k n u : Value) (hg : w.heap[g]? = some (Obj.cells #[x, y, z] T)) :
    w.cell? ⟨g, 0, none⟩ = some x ∧ w.cell? ⟨g, 1, none⟩ = some y ∧ w.cell? ⟨g, 2, none⟩ = some z ∧ w.frozen? ⟨g, 0, none⟩ = false ∧ w.frozen? ⟨g, 1, none⟩ = false ∧ w.frozen? ⟨g, 2, none⟩ = false ∧
    ∃ w', ((w.setCell ⟨g, 0, none⟩ k).setCell ⟨g, 1, none⟩ n).setCell ⟨g, 2, none⟩ u = w' ∧ w'.heap[g]? = some (Obj.cells #[k, n, u] T) ∧ w'.heap.size = w.heap.size ∧ (∀ b, b ≠ g → w'.heap[b]? = w.heap[b]?) ∧ Below g w w' := by
  refine ⟨cell_of_row w g 0 _ _ (0, 0) hg, cell_of_row w g 1 _ _ (0, 0) hg, cell_of_row w g 2 _ _ (0, 0) hg, frozen_cells hg 0, frozen_cells hg 1, frozen_cells hg 2, _, rfl, ?_, by simp [World.setCell], fun b hne => ?_, ?_⟩
  · exact heap_setCell_same _ g 2 _ T u (heap_setCell_same _ g 1 _ T n (heap_setCell_same w g 0 _ T k hg))
  · rw [Below.heap_setCell _ _ _ _ (by simpa using hne), Below.heap_setCell _ _ _ _ (by simpa using hne), Below.heap_setCell _ _ _ _ (by simpa using hne)]
  · exact (((Below.refl g w).setCell (p := ⟨g, 0, none⟩) (Nat.le_refl g) _).setCell (p := ⟨g, 1, none⟩) (Nat.le_refl g) _).setCell (p := ⟨g, 2, none⟩) (Nat.le_refl g) _
/-- What stands between the rounds. -/
def ArInv (w : World) (vl : Value) (f : Fo) (j : Nat) (W : World) : Prop :=
  (∃ u : Sl, W.heap[w.heap.size + 2]? = some (Obj.cells #[.int .i64 (f.drop (f.len - j)).arrF.1, .int .i64 (f.drop (f.len - j)).arrF.2.1, slv u] 25) ∧ FreshT 25 (w.heap.size + 3) W idn (f.drop (f.len - j)).arrF.2.2 u) ∧
    Boxed W w.heap.size 23 vl ∧ W.heap[w.heap.size + 1]? = some (Obj.cells rt0 25) ∧ Below w.heap.size w W
theorem ArInv.kept {w : World} {vl : Value} {f : Fo} {j : Nat} {W W' : World} (h : ArInv w vl f j W) (hs : W.heap.size ≤ W'.heap.size) (hk : ∀ (b : Nat) (cs : Array Value) (t : TypeId), t ≠ 98 → W.heap[b]? = some (Obj.cells cs t) → W'.heap[b]? = some (Obj.cells cs t)) (hb : Below w.heap.size w W') : ArInv w vl f j W' := by
  obtain ⟨⟨u, hu, hf⟩, hx, hr, _⟩ := h
  exact ⟨⟨u, hk _ _ _ (by decide) hu, hf.to hs fun b cs _ hc => hk _ _ _ (by decide) hc⟩, hk _ _ _ (by decide) hx, hk _ _ _ (by decide) hr, hb⟩
theorem ArInv.own {w : World} {vl : Value} {f : Fo} (B : Nat) (hB : w.heap.size ≤ B) : OwnFrom B (fun (pre : List (Int × Tr)) W => ArInv w vl f pre.length W) := by
  intro s W W' row hs hg hr
  have hb : Below w.heap.size w W' := ⟨hg.os.trans hs.2.2.2.os, hg.tape.trans hs.2.2.2.tape, hg.output.trans hs.2.2.2.output, Nat.le_trans hs.2.2.2.size hg.size, fun k hk => (hg.block k (Nat.lt_of_lt_of_le hk hs.2.2.2.size) (fun e => by have := (hr k e.symm).1; omega)).trans (hs.2.2.2.block k hk)⟩
  refine hs.kept hg.size (fun b cs t _ hc => (hg.block b (Array.getElem?_eq_some_iff.1 hc).1 fun e => ?_).trans hc) hb
  obtain ⟨o, ho, hoc⟩ := (hr b e.symm).2
  rw [hc] at ho
  cases ho
  cases hoc
theorem ArInv.ab {w : World} {vl : Value} {f : Fo} (B : Nat) (hB : w.heap.size ≤ B) : AbC B 98 (fun (pre : List (Int × Tr)) W => ArInv w vl f pre.length W) := by
  intro s W W' hs hc
  have hb : Below w.heap.size w W' := hs.2.2.2.trans (hc.below hB hs.2.2.2.size)
  obtain ⟨row, hg, hr⟩ := hc
  refine hs.kept hg.size (fun b cs t hne hcc => (hg.block b (Array.getElem?_eq_some_iff.1 hcc).1 fun e => ?_).trans hcc) hb
  obtain ⟨_, cs', hc'⟩ := hr b e.symm
  rw [hcc] at hc'
  cases hc'
  exact hne rfl
/-- A round, put together. -/
theorem ar_fin {w : World} {vl : Value} {f : Fo} {pre : List (Int × Tr)} {x : Int × Tr} {W W3 W4 : World} {k n : Int} {u : Sl} {o : Array Value} (hi : ArInv w vl f pre.length W) (h3 : Below W.heap.size W W3) (h4 : W4.heap[w.heap.size + 2]? = some (Obj.cells #[.int .i64 k, .int .i64 n, slv u] 25)) (hs : W4.heap.size = W3.heap.size) (hfar : ∀ b, b ≠ w.heap.size + 2 → W4.heap[b]? = W3.heap[b]?) (hb4 : Below (w.heap.size + 2) W3 W4)
    (hk : k = (f.drop (f.len - (pre.length + 1))).arrF.1) (hn : n = (f.drop (f.len - (pre.length + 1))).arrF.2.1) (hf : FreshT 25 (w.heap.size + 3) W3 idn (f.drop (f.len - (pre.length + 1))).arrF.2.2 u)
    (hW0 : W.heap[w.heap.size + 3]? = some (Obj.cells o 23)) (B0 : Nat) (hB0 : w.heap.size + 4 ≤ B0) (hBW : B0 ≤ W.heap.size) :
    KeepsFrom B0 W W4 ∧ KpB w.heap.size (w.heap.size + 3) W W4 ∧ ArInv w vl f (pre ++ [x]).length W4 := by
  have hz := h3.size
  have all : ∀ b, b < W.heap.size → b ≠ w.heap.size + 2 → W4.heap[b]? = W.heap[b]? := fun b hb hne => (hfar b hne).trans (h3.block b hb)
  have hbl : Below w.heap.size w W4 := (hi.2.2.2.trans (h3.mono (by omega))).trans (hb4.mono (by omega))
  refine ⟨⟨by omega, fun b o' hb ho _ => (all b (Array.getElem?_eq_some_iff.1 ho).1 (by omega)).trans ho⟩, ⟨(h3.mono (by omega)).trans (hb4.mono (by omega)), fun o' ho _ => (all _ (Array.getElem?_eq_some_iff.1 ho).1 (by omega)).trans ho⟩, ?_⟩
  rw [List.length_append, List.length_singleton]
  refine ⟨⟨u, by rw [← hk, ← hn]; exact h4, hf.to (by omega) fun b cs hb hc => (hfar b (by omega)).trans hc⟩, (all _ (by omega) (by omega)).trans hi.2.1, (all _ (by omega) (by omega)).trans hi.2.2.1, hbl⟩
end Go.Proofs.YtifdbmdfkhnojaaDoor
