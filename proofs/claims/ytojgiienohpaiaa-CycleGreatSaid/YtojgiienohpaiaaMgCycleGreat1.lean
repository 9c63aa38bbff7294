/- Texts of one proof, one behind the other. -/
import Derived.Lib.Hide
import Derived.OrdersHeld
import Derived.Deep.RegionHeld3
import Derived.Below
import Derived.WalkKit
import Derived.WalkSpells
import Derived.WalkLawsBesides
/- cycle: the walk from class to class, plain. -/
namespace Go.Proofs.Ytojgiienohpaiaa
/-- One is a part of another one. -/
def Chl (ch : Nat → List Nat) (y x : Nat) : Prop := y ∈ ch x
/-- A way without an end: not finite. -/
theorem acc_chain {ch : Nat → List Nat} {a : Nat} (h : Acc (Chl ch) a) : ∀ f : Nat → Nat, f 0 = a → (∀ i, f (i + 1) ∈ ch (f i)) → False := by
  induction h with
  | intro a _ ih =>
    intro f h0 hf
    exact ih (f 1) (by have := hf 0; rw [h0] at this; exact this) (fun i => f (i + 1)) rfl fun i => hf (i + 1)
/-- Round and round: not finite. -/
theorem acc_round {ch : Nat → List Nat} {l : List Nat} (hl : 0 < l.length) (h : ∀ i a b, l[i]? = some a → l[i + 1]? = some b → b ∈ ch a) (hr : ∀ a b, l[l.length - 1]? = some a → l[0]? = some b → b ∈ ch a) {x : Nat} (hx : x ∈ l) : ¬ Acc (Chl ch) x := by
  intro hacc
  obtain ⟨s, hs, rfl⟩ := List.getElem_of_mem hx
  have hm : ∀ i, (i + s) % l.length < l.length := fun i => Nat.mod_lt _ hl
  refine acc_chain hacc (fun i => l[(i + s) % l.length]'(hm i)) (by simp [Nat.mod_eq_of_lt hs]) fun i => ?_
  by_cases hc : (i + s) % l.length + 1 < l.length
  · have e : (i + 1 + s) % l.length = (i + s) % l.length + 1 := by
      rw [show i + 1 + s = i + s + 1 by omega, Nat.add_mod, Nat.mod_eq_of_lt (show 1 < l.length by omega), Nat.mod_eq_of_lt hc]
    refine h ((i + s) % l.length) _ _ (List.getElem?_eq_getElem (hm i)) ?_
    rw [List.getElem?_eq_getElem hc]
    simp only [e]
  · have hlt := hm i
    have e0 : (i + s) % l.length = l.length - 1 := by omega
    have e : (i + 1 + s) % l.length = 0 := by
      have h1 : i + 1 + s = l.length * ((i + s) / l.length) + l.length := by
        have := Nat.div_add_mod (i + s) l.length
        omega
      rw [h1, Nat.add_mod_right, Nat.mul_mod_right]
    refine hr _ _ ?_ ?_
    · rw [← e0, List.getElem?_eq_getElem (hm i)]
    · rw [List.getElem?_eq_getElem hl]
      simp only [e]
/-- One told anew. -/
def upe (e : Nat → Option Bool) (x : Nat) (b : Bool) : Nat → Option Bool := fun y => if y = x then some b else e y
/-- What is known while one goes from class to class: e: of those come to whether they end (false while they are gone through); S: those that are gone through, the first one first, each with how many of its parts are known to end. -/
structure Dfs (ch : Nat → List Nat) (e : Nat → Option Bool) (S : List (Nat × Nat)) : Prop where
  on : ∀ x ∈ S, e x.1 = some false
  nd : (S.map (·.1)).Nodup
  chain : ∀ (i : Nat) (a b : Nat × Nat), S[i]? = some a → S[i + 1]? = some b → (ch a.1)[a.2]? = some b.1
  past : ∀ x ∈ S, ∀ t, t < x.2 → ∃ y, (ch x.1)[t]? = some y ∧ e y = some true
  le : ∀ x ∈ S, x.2 ≤ (ch x.1).length
  tt : ∀ x, e x = some true → Acc (Chl ch) x
  ff : ∀ x, e x = some false → (∀ s ∈ S, s.1 ≠ x) → ¬ Acc (Chl ch) x
section CyPs
variable {ch : Nat → List Nat} {e : Nat → Option Bool} {S : List (Nat × Nat)} {r k x : Nat}
theorem Dfs.none : Dfs ch (fun _ => .none) [] :=
  ⟨fun x h => by simp at h, by simp, fun i a b h => by simp at h, fun x h => by simp at h, fun x h => by simp at h, (fun x h => by cases h), (fun x h => by cases h)⟩
/-- One more is begun, where the last one wants it, or there is none yet. -/
theorem Dfs.push (h : Dfs ch e S) (hx : ∀ a, S[S.length - 1]? = some a → (ch a.1)[a.2]? = some x) (hn : e x = .none) : Dfs ch (upe e x false) (S ++ [(x, 0)]) := by
  have hne : ∀ s ∈ S, s.1 ≠ x := fun s hs he => by have := h.on s hs; rw [he, hn] at this; cases this
  have hu : ∀ y, y ≠ x → upe e x false y = e y := fun y hy => by unfold upe; rw [if_neg hy]
  refine ⟨fun s hs => ?_, ?_, fun i a b ha hb => ?_, fun s hs t ht => ?_, fun s hs => ?_, fun y hy => ?_, fun y hy ho => ?_⟩
  · rcases List.mem_append.1 hs with hs | hs
    · rw [hu _ (hne s hs)]; exact h.on s hs
    · obtain rfl : s = (x, 0) := by simpa using hs
      simp [upe]
  · rw [List.map_append, List.nodup_append]
    refine ⟨h.nd, by simp, fun a ha b hb => ?_⟩
    obtain ⟨s, hs, rfl⟩ := List.mem_map.1 ha
    obtain rfl : b = x := by simpa using hb
    exact hne s hs
  · have hbl := (List.getElem?_eq_some_iff.1 hb).1
    rw [List.length_append, List.length_singleton] at hbl
    rw [List.getElem?_append_left (by omega)] at ha
    by_cases hi : i + 1 < S.length
    · rw [List.getElem?_append_left hi] at hb
      exact h.chain i a b ha hb
    · have e1 : i + 1 = S.length := by omega
      rw [List.getElem?_append_right (by omega), e1, Nat.sub_self] at hb
      obtain rfl : b = (x, 0) := by simpa using hb.symm
      exact hx a (by rw [show S.length - 1 = i by omega]; exact ha)
  · rcases List.mem_append.1 hs with hs | hs
    · obtain ⟨y, h1, h2⟩ := h.past s hs t ht
      refine ⟨y, h1, ?_⟩
      rw [hu y (fun he => by rw [he, hn] at h2; cases h2)]
      exact h2
    · obtain rfl : s = (x, 0) := by simpa using hs
      exact absurd ht (Nat.not_lt_zero _)
  · rcases List.mem_append.1 hs with hs | hs
    · exact h.le s hs
    · obtain rfl : s = (x, 0) := by simpa using hs
      exact Nat.zero_le _
  · by_cases he : y = x
    · subst he; simp [upe] at hy
    · rw [hu y he] at hy; exact h.tt y hy
  · have he : y ≠ x := fun he => ho (x, 0) (by simp) he.symm
    rw [hu y he] at hy
    exact h.ff y hy fun s hs => ho s (List.mem_append_left _ hs)
/-- The last one's next part ends. -/
theorem Dfs.step (h : Dfs ch e (S ++ [(r, k)])) (hx : (ch r)[k]? = some x) (ht : e x = some true) : Dfs ch e (S ++ [(r, k + 1)]) := by
  have hk := (List.getElem?_eq_some_iff.1 hx).1
  have hm : ∀ s, s ∈ S ++ [(r, k + 1)] → s ∈ S ++ [(r, k)] ∨ s = (r, k + 1) := fun s hs => by
    rcases List.mem_append.1 hs with hs | hs
    · exact .inl (List.mem_append_left _ hs)
    · exact .inr (by simpa using hs)
  refine ⟨fun s hs => ?_, by simpa using h.nd, fun i a b ha hb => ?_, fun s hs t htt => ?_, fun s hs => ?_, h.tt, fun y hy ho => h.ff y hy fun s hs => ?_⟩
  · rcases hm s hs with hs | rfl
    · exact h.on s hs
    · exact h.on (r, k) (by simp)
  · have hbl := (List.getElem?_eq_some_iff.1 hb).1
    rw [List.length_append, List.length_singleton] at hbl
    rw [List.getElem?_append_left (by omega)] at ha
    by_cases hi : i + 1 < S.length
    · rw [List.getElem?_append_left hi] at hb
      exact h.chain i a b (by rw [List.getElem?_append_left (by omega)]; exact ha) (by rw [List.getElem?_append_left hi]; exact hb)
    · have e1 : i + 1 = S.length := by omega
      rw [List.getElem?_append_right (by omega), e1, Nat.sub_self] at hb
      obtain rfl : b = (r, k + 1) := by simpa using hb.symm
      exact h.chain i a (r, k) (by rw [List.getElem?_append_left (by omega)]; exact ha) (by rw [List.getElem?_append_right (by omega), e1, Nat.sub_self]; rfl)
  · rcases hm s hs with hs | rfl
    · exact h.past s hs t htt
    · rcases Nat.lt_or_ge t k with h1 | h1
      · exact h.past (r, k) (by simp) t h1
      · obtain rfl : t = k := by have htt : t < k + 1 := htt; omega
        exact ⟨x, hx, ht⟩
  · rcases hm s hs with hs | rfl
    · exact h.le s hs
    · exact hk
  · rcases List.mem_append.1 hs with hs | hs
    · exact ho s (List.mem_append_left _ hs)
    · obtain rfl : s = (r, k) := by simpa using hs
      exact ho (r, k + 1) (by simp)
/-- What is known of the last one is told, and it goes. -/
theorem Dfs.pop (h : Dfs ch e (S ++ [(r, k)])) (b : Bool) (hb : b = true → Acc (Chl ch) r) (hf : b = false → ¬ Acc (Chl ch) r) : Dfs ch (upe e r b) S := by
  have hnd := h.nd
  rw [List.map_append, List.nodup_append] at hnd
  have hne : ∀ s ∈ S, s.1 ≠ r := fun s hs => hnd.2.2 s.1 (List.mem_map_of_mem hs) r (by simp)
  have hu : ∀ y, y ≠ r → upe e r b y = e y := fun y hy => by unfold upe; rw [if_neg hy]
  have hr := h.on (r, k) (by simp)
  refine ⟨fun s hs => ?_, hnd.1, fun i a c ha hc => ?_, fun s hs t ht => ?_, fun s hs => h.le s (List.mem_append_left _ hs), fun y hy => ?_, fun y hy ho => ?_⟩
  · rw [hu _ (hne s hs)]; exact h.on s (List.mem_append_left _ hs)
  · have h1 := (List.getElem?_eq_some_iff.1 ha).1
    have h2 := (List.getElem?_eq_some_iff.1 hc).1
    exact h.chain i a c (by rw [List.getElem?_append_left h1]; exact ha) (by rw [List.getElem?_append_left h2]; exact hc)
  · obtain ⟨y, h1, h2⟩ := h.past s (List.mem_append_left _ hs) t ht
    refine ⟨y, h1, ?_⟩
    rw [hu y (fun he => by rw [he] at h2; rw [hr] at h2; cases h2)]
    exact h2
  · by_cases he : y = r
    · subst he
      simp only [upe, if_pos] at hy
      exact hb (by simpa using hy)
    · rw [hu y he] at hy; exact h.tt y hy
  · by_cases he : y = r
    · subst he
      simp only [upe, if_pos] at hy
      exact hf (by simpa using hy)
    · rw [hu y he] at hy
      refine h.ff y hy fun s hs => ?_
      rcases List.mem_append.1 hs with hs | hs
      · exact ho s hs
      · obtain rfl : s = (r, k) := by simpa using hs
        exact fun e => he e.symm
/-- All of the last one's parts end: it does. -/
theorem Dfs.whole (h : Dfs ch e (S ++ [(r, k)])) (hk : k = (ch r).length) : Acc (Chl ch) r := by
  refine ⟨r, fun y hy => ?_⟩
  obtain ⟨t, ht, rfl⟩ := List.getElem_of_mem (show y ∈ ch r from hy)
  obtain ⟨z, h1, h2⟩ := h.past (r, k) (by simp) t (by show t < k; omega)
  rw [List.getElem?_eq_getElem ht] at h1
  cases h1
  exact h.tt _ h2
/-- The last one's next part doesn't end: it doesn't. -/
theorem Dfs.stuck (h : Dfs ch e (S ++ [(r, k)])) (hx : (ch r)[k]? = some x) (hf : e x = some false) : ¬ Acc (Chl ch) r := by
  have hxr : x ∈ ch r := List.mem_of_getElem? hx
  by_cases ho : ∀ s ∈ S ++ [(r, k)], s.1 ≠ x
  · exact fun hacc => h.ff x hf ho (hacc.inv hxr)
  · have ho : ∃ s, s ∈ S ++ [(r, k)] ∧ s.1 = x := Classical.byContradiction fun hn => ho fun s hs he => hn ⟨s, hs, he⟩
    obtain ⟨s, hs, he⟩ := ho
    obtain ⟨i, hi, hsi⟩ := List.getElem_of_mem hs
    have hT : (S ++ [(r, k)]).length = S.length + 1 := by simp
    -- from x on to the last one
    obtain ⟨l, hl⟩ : ∃ l, ((S ++ [(r, k)]).drop i).map (·.1) = l := ⟨_, rfl⟩
    have hll : l.length = S.length + 1 - i := by rw [← hl]; simp
    have hat : ∀ t, l[t]? = ((S ++ [(r, k)])[i + t]?).map (·.1) := fun t => by rw [← hl, List.getElem?_map, List.getElem?_drop]
    have hlast : l[l.length - 1]? = some r := by
      rw [hat, hll, show i + (S.length + 1 - i - 1) = S.length by omega, List.getElem?_append_right (Nat.le_refl _), Nat.sub_self]
      rfl
    have h0 : l[0]? = some x := by
      rw [hat, Nat.add_zero, List.getElem?_eq_getElem hi, hsi]
      simp [he]
    refine acc_round (l := l) (by omega) (fun t a b ha hb => ?_) (fun a b ha hb => ?_) (List.mem_of_getElem? hlast)
    · rw [hat] at ha hb
      obtain ⟨p, hp, rfl⟩ := Option.map_eq_some_iff.1 ha
      obtain ⟨q, hq, rfl⟩ := Option.map_eq_some_iff.1 hb
      exact List.mem_of_getElem? (h.chain (i + t) p q hp (by rw [show i + t + 1 = i + (t + 1) by omega]; exact hq))
    · rw [hlast] at ha
      rw [h0] at hb
      cases ha
      cases hb
      exact hxr
end CyPs
end Go.Proofs.Ytojgiienohpaiaa
/- Regions that hold many calls in a row, two and two beside each other: what each pair leaves is walked once. Nothing here speaks of the program. -/
namespace Go.Proofs.Ytojgiienohpaiaa
open Go.RowKit
variable {P : Program} {ops : Array Oper} {Q : Exit → Act → World → Prop} {md : Region.Mode}

/-- Nothing that stood in W0 has turned. -/
def LS (W0 : World) (w : World) : Prop := Below W0.heap.size W0 w
theorem LS.step {W0 w w' : World} (h : LS W0 w) (hb : Below w.heap.size w w') : LS W0 w' := Below.trans h (hb.mono h.size)
/-- What bears that new blocks are laid. -/
def Bears (V : Value → World → Prop) : Prop := ∀ v w w', V v w → Below w.heap.size w w' → V v w'
theorem bears_eq (u : Value) : Bears (fun v _ => v = u) := fun _ _ _ h _ => h
/-- A call's contract: new blocks alone, and what is known of its value. -/
abbrev Gives (P : Program) (f : FuncId) (args : Array Value) (w : World) (V : Value → World → Prop) : Prop :=
  Calls P f args w fun e w' => ∃ v, e = .returned v ∧ V v w' ∧ Below w.heap.size w w'
theorem gives_of {f : FuncId} {args : Array Value} {w : World} {u : Value} (h : Calls P f args w fun e w' => e = .returned u ∧ Below w.heap.size w w') : Gives P f args w (fun v _ => v = u) := h.mono fun _ _ ⟨h1, h2⟩ => ⟨u, h1, rfl, h2⟩
theorem op_call {W0 : World} {o : Oper} {i : Nat} {f : FuncId} {args : Array Value} {V : Value → World → Prop} {a : Act} {w : World} {K : Act → World → Prop}
    (hi : ops[i]? = some o) (hw : Region.wanted o (yielded ops a.tmps) = true) (he : (execOp a.eval o).run P w = .ok (.enter f args) w) (hS : LS W0 w)
    (hc : Gives P f args w V) (hk : ∀ v w', Below w.heap.size w w' → V v w' → K (a.put o.dst v) w') : wpOp P ops Q i (fun a' w' => LS W0 w' ∧ K a' w') a w := by
  unfold wpOp
  simp only [hi]
  rw [if_pos hw]
  refine .inl ?_
  unfold Oper.wp
  rw [he]
  simp only [Oper.upon]
  refine hc.mono fun e w' ⟨v, hv, hV, hb⟩ => ?_
  subst hv
  exact ⟨hS.step hb, hk v w' hb hV⟩
/-- One call alone may come up. -/
theorem any_one {W0 : World} {i : Nat} {o : Oper} {f : FuncId} {args : Array Value} {V : Value → World → Prop} {fuel : Nat} {listed : Array Bool} {a : Act} {w : World}
    (hi : ops[i]? = some o) (hr : Region.ready md ops listed = [i]) (hw : Region.wanted o (yielded ops a.tmps) = true) (he : (execOp a.eval o).run P w = .ok (.enter f args) w) (hS : LS W0 w)
    (hc : Gives P f args w V) (hk : ∀ v w', Below w.heap.size w w' → LS W0 w' → V v w' → wpAnyH P md ops Q (LS W0) fuel (listed.setIfInBounds i true) (a.put o.dst v) w') : wpAnyH P md ops Q (LS W0) (fuel + 1) listed a w := by
  refine wpAnyH_all hr (by simp) fun j hj => ?_
  obtain rfl : j = i := by simpa using hj
  exact op_call hi hw he hS hc fun v w' hb hV => hk v w' hb (hS.step hb) hV
/-- Two calls may come up, in either order. -/
theorem any_two {W0 : World} {i j : Nat} {oi oj : Oper} {fi fj : FuncId} {ai aj : Array Value} {Vi Vj : Value → World → Prop} {fuel : Nat} {listed : Array Bool} {a : Act} {w : World}
    (hi : ops[i]? = some oi) (hj : ops[j]? = some oj) (hij : i ≠ j) (hr : Region.ready md ops listed = [i, j])
    (hri : Region.ready md ops (listed.setIfInBounds i true) = [j]) (hrj : Region.ready md ops (listed.setIfInBounds j true) = [i])
    (hwi : Region.wanted oi (yielded ops a.tmps) = true) (hwj : Region.wanted oj (yielded ops a.tmps) = true)
    (hwi' : ∀ v, Region.wanted oi (yielded ops (a.put oj.dst v).tmps) = true) (hwj' : ∀ v, Region.wanted oj (yielded ops (a.put oi.dst v).tmps) = true)
    (hei : ∀ w, (execOp a.eval oi).run P w = .ok (.enter fi ai) w) (hej : ∀ w, (execOp a.eval oj).run P w = .ok (.enter fj aj) w)
    (hei' : ∀ v w, (execOp (a.put oj.dst v).eval oi).run P w = .ok (.enter fi ai) w) (hej' : ∀ v w, (execOp (a.put oi.dst v).eval oj).run P w = .ok (.enter fj aj) w)
    (hcomm : ∀ vi vj, (a.put oj.dst vj).put oi.dst vi = (a.put oi.dst vi).put oj.dst vj) (hS : LS W0 w) (bi : Bears Vi) (bj : Bears Vj)
    (hci : ∀ w1, Below w.heap.size w w1 → Gives P fi ai w1 Vi) (hcj : ∀ w1, Below w.heap.size w w1 → Gives P fj aj w1 Vj)
    (hk : ∀ vi vj w', Below w.heap.size w w' → LS W0 w' → Vi vi w' → Vj vj w' → wpAnyH P md ops Q (LS W0) fuel ((listed.setIfInBounds i true).setIfInBounds j true) ((a.put oi.dst vi).put oj.dst vj) w') : wpAnyH P md ops Q (LS W0) (fuel + 2) listed a w := by
  refine wpAnyH_all hr (by simp) fun k hk' => ?_
  rcases (by simpa using hk' : k = i ∨ k = j) with rfl | rfl
  · refine op_call hi hwi (hei w) hS (hci w (Below.refl _ _)) fun vi w1 hb1 hV1 => ?_
    refine wpAnyH_all hri (by simp) fun k hk' => ?_
    obtain rfl : k = j := by simpa using hk'
    refine op_call hj (hwj' vi) (hej' vi w1) (hS.step hb1) (hcj w1 hb1) fun vj w2 hb2 hV2 => ?_
    exact hk vi vj w2 (hb1.trans (hb2.mono hb1.size)) ((hS.step hb1).step hb2) (bi _ _ _ hV1 hb2) hV2
  · refine op_call hj hwj (hej w) hS (hcj w (Below.refl _ _)) fun vj w1 hb1 hV1 => ?_
    refine wpAnyH_all hrj (by simp) fun k hk' => ?_
    obtain rfl : k = i := by simpa using hk'
    refine op_call hi (hwi' vj) (hei' vj w1) (hS.step hb1) (hci w1 hb1) fun vi w2 hb2 hV2 => ?_
    rw [Array.setIfInBounds_comm _ _ hij.symm, hcomm]
    exact hk vi vj w2 (hb1.trans (hb2.mono hb1.size)) ((hS.step hb1).step hb2) hV2 (bj _ _ _ hV1 hb2)
theorem op_val {W0 : World} {o : Oper} {i : Nat} {v : Value} {a : Act} {w w' : World} {K : Act → World → Prop}
    (hi : ops[i]? = some o) (hw : Region.wanted o (yielded ops a.tmps) = true) (he : (execOp a.eval o).run P w = .ok (.value v) w') (hS : LS W0 w) (hb : Below w.heap.size w w')
    (hk : K (a.put o.dst v) w') : wpOp P ops Q i (fun a' w' => LS W0 w' ∧ K a' w') a w := by
  unfold wpOp
  simp only [hi]
  rw [if_pos hw]
  refine .inl ?_
  unfold Oper.wp
  rw [he]
  simp only [Oper.upon]
  exact ⟨hS.step hb, hk⟩
/-- Two may come up: a new block, behind which comes a call that takes it; and a call. -/
theorem any_three {W0 : World} {i j k : Nat} {oi oj ok : Oper} {fj fk : FuncId} {aj : Value → Array Value} {ak : Array Value} {Vi Vj Vk : Value → World → Prop} {fuel : Nat} {listed : Array Bool} {a : Act} {w : World}
    (hi : ops[i]? = some oi) (hj : ops[j]? = some oj) (hok : ops[k]? = some ok) (hik : i ≠ k) (hjk : j ≠ k)
    (r0 : Region.ready md ops listed = [i, k]) (r1 : Region.ready md ops (listed.setIfInBounds i true) = [j, k]) (r2 : Region.ready md ops (listed.setIfInBounds k true) = [i])
    (r3 : Region.ready md ops ((listed.setIfInBounds i true).setIfInBounds j true) = [k]) (r4 : Region.ready md ops ((listed.setIfInBounds i true).setIfInBounds k true) = [j])
    (wi : Region.wanted oi (yielded ops a.tmps) = true) (wk : Region.wanted ok (yielded ops a.tmps) = true)
    (wi' : ∀ v, Region.wanted oi (yielded ops (a.put ok.dst v).tmps) = true) (wj : ∀ v, Region.wanted oj (yielded ops (a.put oi.dst v).tmps) = true) (wk' : ∀ v, Region.wanted ok (yielded ops (a.put oi.dst v).tmps) = true)
    (wk2 : ∀ v v2, Region.wanted ok (yielded ops ((a.put oi.dst v).put oj.dst v2).tmps) = true) (wj2 : ∀ v v2, Region.wanted oj (yielded ops ((a.put oi.dst v).put ok.dst v2).tmps) = true)
    (hei : ∀ w1, Below w.heap.size w w1 → ∃ v w2, (execOp a.eval oi).run P w1 = .ok (.value v) w2 ∧ Vi v w2 ∧ Below w1.heap.size w1 w2) (hei' : ∀ v w, (execOp (a.put ok.dst v).eval oi).run P w = (execOp a.eval oi).run P w)
    (hej : ∀ v w, (execOp (a.put oi.dst v).eval oj).run P w = .ok (.enter fj (aj v)) w) (hej' : ∀ v v2 w, (execOp ((a.put oi.dst v).put ok.dst v2).eval oj).run P w = .ok (.enter fj (aj v)) w)
    (hek : ∀ w, (execOp a.eval ok).run P w = .ok (.enter fk ak) w) (hek1 : ∀ v w, (execOp (a.put oi.dst v).eval ok).run P w = .ok (.enter fk ak) w) (hek2 : ∀ v v2 w, (execOp ((a.put oi.dst v).put oj.dst v2).eval ok).run P w = .ok (.enter fk ak) w)
    (c1 : ∀ vi vk, (a.put ok.dst vk).put oi.dst vi = (a.put oi.dst vi).put ok.dst vk) (c2 : ∀ vi vj vk, ((a.put oi.dst vi).put ok.dst vk).put oj.dst vj = ((a.put oi.dst vi).put oj.dst vj).put ok.dst vk) (hS : LS W0 w)
    (bi : Bears Vi) (bj : Bears Vj) (bk : Bears Vk)
    (hcj : ∀ v w1, Below w.heap.size w w1 → Vi v w1 → Gives P fj (aj v) w1 Vj) (hck : ∀ w1, Below w.heap.size w w1 → Gives P fk ak w1 Vk)
    (hk : ∀ vi vj vk w', Below w.heap.size w w' → LS W0 w' → Vi vi w' → Vj vj w' → Vk vk w' → wpAnyH P md ops Q (LS W0) fuel (((listed.setIfInBounds i true).setIfInBounds j true).setIfInBounds k true) (((a.put oi.dst vi).put oj.dst vj).put ok.dst vk) w') : wpAnyH P md ops Q (LS W0) (fuel + 3) listed a w := by
  refine wpAnyH_all r0 (by simp) fun q hq => ?_
  rcases (by simpa using hq : q = i ∨ q = k) with rfl | rfl
  · obtain ⟨vi, w1, he, hV1, hb1⟩ := hei w (Below.refl _ _)
    refine op_val hi wi he hS hb1 ?_
    refine wpAnyH_all r1 (by simp) fun q hq => ?_
    rcases (by simpa using hq : q = j ∨ q = k) with rfl | rfl
    · refine op_call hj (wj vi) (hej vi w1) (hS.step hb1) (hcj vi w1 hb1 hV1) fun vj w2 hb2 hV2 => ?_
      have hb12 := hb1.trans (hb2.mono hb1.size)
      refine wpAnyH_all r3 (by simp) fun q hq => ?_
      obtain rfl : q = k := by simpa using hq
      refine op_call hok (wk2 vi vj) (hek2 vi vj w2) (hS.step hb12) (hck w2 hb12) fun vk w3 hb3 hV3 => ?_
      exact hk vi vj vk w3 (hb12.trans (hb3.mono hb12.size)) ((hS.step hb12).step hb3) (bi _ _ _ (bi _ _ _ hV1 hb2) hb3) (bj _ _ _ hV2 hb3) hV3
    · refine op_call hok (wk' vi) (hek1 vi w1) (hS.step hb1) (hck w1 hb1) fun vk w2 hb2 hV2 => ?_
      have hb12 := hb1.trans (hb2.mono hb1.size)
      refine wpAnyH_all r4 (by simp) fun q hq => ?_
      obtain rfl : q = j := by simpa using hq
      refine op_call hj (wj2 vi vk) (hej' vi vk w2) (hS.step hb12) (hcj vi w2 hb12 (bi _ _ _ hV1 hb2)) fun vj w3 hb3 hV3 => ?_
      rw [Array.setIfInBounds_comm _ _ hjk.symm, c2]
      exact hk vi vj vk w3 (hb12.trans (hb3.mono hb12.size)) ((hS.step hb12).step hb3) (bi _ _ _ (bi _ _ _ hV1 hb2) hb3) hV3 (bk _ _ _ hV2 hb3)
  · refine op_call hok wk (hek w) hS (hck w (Below.refl _ _)) fun vk w1 hb1 hV1 => ?_
    refine wpAnyH_all r2 (by simp) fun q hq => ?_
    obtain rfl : q = i := by simpa using hq
    obtain ⟨vi, w2, he, hV2, hb2⟩ := hei w1 hb1
    have hb12 := hb1.trans (hb2.mono hb1.size)
    refine op_val hi (wi' vk) ((hei' vk w1).trans he) (hS.step hb1) hb2 ?_
    rw [Array.setIfInBounds_comm _ _ hik.symm, c1]
    refine wpAnyH_all r4 (by simp) fun q hq => ?_
    obtain rfl : q = j := by simpa using hq
    refine op_call hj (wj2 vi vk) (hej' vi vk w2) (hS.step hb12) (hcj vi w2 hb12 hV2) fun vj w3 hb3 hV3 => ?_
    rw [Array.setIfInBounds_comm _ _ hjk.symm, c2]
    exact hk vi vj vk w3 (hb12.trans (hb3.mono hb12.size)) ((hS.step hb12).step hb3) (bi _ _ _ hV2 hb3) hV3 (bk _ _ _ (bk _ _ _ hV1 hb2) hb3)
/-- One operation alone may come up, that is no call: it lays new blocks at most. -/
theorem any_op {W0 : World} {i : Nat} {o : Oper} {v : Value} {fuel : Nat} {listed : Array Bool} {a : Act} {w w' : World}
    (hi : ops[i]? = some o) (hr : Region.ready md ops listed = [i]) (hw : Region.wanted o (yielded ops a.tmps) = true) (he : (execOp a.eval o).run P w = .ok (.value v) w') (hS : LS W0 w)
    (hb : Below w.heap.size w w') (hk : LS W0 w' → wpAnyH P md ops Q (LS W0) fuel (listed.setIfInBounds i true) (a.put o.dst v) w') : wpAnyH P md ops Q (LS W0) (fuel + 1) listed a w := by
  refine wpAnyH_all hr (by simp) fun j hj => ?_
  obtain rfl : j = i := by simpa using hj
  unfold wpOp
  simp only [hi]
  rw [if_pos hw]
  refine .inl ?_
  unfold Oper.wp
  rw [he]
  simp only [Oper.upon]
  exact ⟨hS.step hb, hk (hS.step hb)⟩
/-! The same, the slot that is written told by its number. -/
theorem any_take {S : World → Prop} {i : Nat} {oi : Oper} (d : Option Tmp) (v : Value) {fuel : Nat} {listed : Array Bool} {a : Act} {w : World} (hi : ops[i]? = some oi) (hd : oi.dst = d)
    (hs : Region.noSelect ops = true) (hf : Region.free md ops listed i = true) (hr : (Region.ready md ops listed).contains i = true)
    (hQ : ∀ c a w, Q (.panic c) (a.put d v) w → Q (.panic c) a w) (hy : YieldsIf P ops S oi v a) (hS : S w)
    (h : wpAnyH P md ops Q S fuel (listed.setIfInBounds i true) (a.put d v) w) : wpAnyH P md ops Q S (fuel + 1) listed a w := by
  subst hd; exact wpAnyH_take hi hs hf hr hQ hy hS h
theorem any_one_d {W0 : World} {i : Nat} {o : Oper} (d : Option Tmp) {f : FuncId} {args : Array Value} {V : Value → World → Prop} {fuel : Nat} {listed : Array Bool} {a : Act} {w : World}
    (hi : ops[i]? = some o) (hd : o.dst = d) (hr : Region.ready md ops listed = [i]) (hw : Region.wanted o (yielded ops a.tmps) = true) (he : (execOp a.eval o).run P w = .ok (.enter f args) w) (hS : LS W0 w)
    (hc : Gives P f args w V) (hk : ∀ v w', Below w.heap.size w w' → LS W0 w' → V v w' → wpAnyH P md ops Q (LS W0) fuel (listed.setIfInBounds i true) (a.put d v) w') : wpAnyH P md ops Q (LS W0) (fuel + 1) listed a w := by
  subst hd; exact any_one hi hr hw he hS hc hk
theorem any_op_d {W0 : World} {i : Nat} {o : Oper} (d : Option Tmp) {v : Value} {fuel : Nat} {listed : Array Bool} {a : Act} {w w' : World}
    (hi : ops[i]? = some o) (hd : o.dst = d) (hr : Region.ready md ops listed = [i]) (hw : Region.wanted o (yielded ops a.tmps) = true) (he : (execOp a.eval o).run P w = .ok (.value v) w') (hS : LS W0 w)
    (hb : Below w.heap.size w w') (hk : LS W0 w' → wpAnyH P md ops Q (LS W0) fuel (listed.setIfInBounds i true) (a.put d v) w') : wpAnyH P md ops Q (LS W0) (fuel + 1) listed a w := by
  subst hd; exact any_op hi hr hw he hS hb hk
end Go.Proofs.Ytojgiienohpaiaa
/- A drawn region by numbers, where S says what stays whatever is stored: one operation that may come up. -/
namespace Go.Proofs.Ytojgiienohpaiaa
open Go.RowKit
section
variable {P : Program} {ops : Array Oper} {Q : Exit → Act → World → Prop} {md : Region.Mode} {S : World → Prop}
/-- One operation that may come up is carried out: S is shown anew. -/
theorem ops_val {o : Oper} {i : Nat} {d : Option Tmp} {v : Value} {a : Act} {w w' : World} {K : Act → World → Prop}
    (hi : ops[i]? = some o) (hd : o.dst = d) (hw : Region.wanted o (yielded ops a.tmps) = true) (he : (execOp a.eval o).run P w = .ok (.value v) w') (hS : S w')
    (hk : K (a.put d v) w') : wpOp P ops Q i (fun a' w' => S w' ∧ K a' w') a w := by
  subst hd
  unfold wpOp
  simp only [hi]
  rw [if_pos hw]
  refine .inl ?_
  unfold Oper.wp
  rw [he]
  simp only [Oper.upon]
  exact ⟨hS, hk⟩
theorem ops_skip {o : Oper} {i : Nat} {a : Act} {w w' : World} {K : Act → World → Prop}
    (hi : ops[i]? = some o) (hw : Region.wanted o (yielded ops a.tmps) = true) (he : (execOp a.eval o).run P w = .ok .skip w') (hS : S w')
    (hd : o.dst = none) (hk : K a w') : wpOp P ops Q i (fun a' w' => S w' ∧ K a' w') a w := by
  unfold wpOp
  simp only [hi]
  rw [if_pos hw]
  refine .inl ?_
  unfold Oper.wp
  rw [he]
  simp only [Oper.upon]
  rw [hd]
  exact ⟨hS, hk⟩
theorem ops_call {o : Oper} {i : Nat} {d : Option Tmp} {f : FuncId} {args : Array Value} {a : Act} {w : World} {K : Act → World → Prop}
    (hi : ops[i]? = some o) (hd : o.dst = d) (hw : Region.wanted o (yielded ops a.tmps) = true) (he : (execOp a.eval o).run P w = .ok (.enter f args) w)
    (hc : Calls P f args w fun e w' => ∃ v, e = .returned v ∧ S w' ∧ K (a.put d v) w') : wpOp P ops Q i (fun a' w' => S w' ∧ K a' w') a w := by
  subst hd
  unfold wpOp
  simp only [hi]
  rw [if_pos hw]
  refine .inl ?_
  unfold Oper.wp
  rw [he]
  simp only [Oper.upon]
  refine hc.mono fun e w' ⟨v, hv, hS, hk⟩ => ?_
  subst hv
  exact ⟨hS, hk⟩
end
end Go.Proofs.Ytojgiienohpaiaa
/- Small facts on memory: a new block's cells, rows that the call owns. Nothing here speaks of the program. -/
namespace Go.Proofs.Ytojgiienohpaiaa
open Go.RowKit

/-- The cells of the newest block. -/
theorem cells_new (w : World) (L : List Value) (t : TypeId) : ∀ (j : Nat) (u : Value), L[j]? = some u → (w.alloc (.cells L.toArray t)).cell? ((⟨w.heap.size, 0, none⟩ : Addr).add j) = some u := by
  intro j u hu
  have h := cell_of_row (w.alloc (.cells L.toArray t)) w.heap.size j L.toArray t (0, 0) (heap_alloc_new w _)
  rw [Addr.add_lit, Nat.zero_add, h]
  simpa using hu
theorem cells_new' (w : World) (g : Nat) (hg : w.heap.size = g) (L : List Value) (t : TypeId) : ∀ (j : Nat) (u : Value), L[j]? = some u → (w.alloc (.cells L.toArray t)).cell? ((⟨g, 0, none⟩ : Addr).add j) = some u := by
  subst hg; exact cells_new w L t
theorem add_lit0 (g i : Nat) : (⟨g, 0, none⟩ : Addr).add i = ⟨g, i, none⟩ := by rw [Addr.add_lit, Nat.zero_add]
/-- A slice value reads as n elements of 'size' cells each: the cells xs. -/
def Rd (w : World) (size : Nat) (v : Value) (n : Nat) (xs : List Value) : Prop :=
  xs.length = n * size ∧ ((n = 0 ∧ ∃ A c, v = .slice A 0 c) ∨
    ∃ b off cap, v = .slice (some ⟨b, off, none⟩) n cap ∧ n ≤ cap ∧ cap ≤ maxLen ∧ b < w.heap.size ∧ ∀ j u, xs[j]? = some u → w.cell? ⟨b, off + j, none⟩ = some u)

theorem Rd.of_own {w : World} {base : Nat} {e : TypeId} {size : Nat} {v : Value} {n : Nat} {xs : List Value} (h : w.ownsRow base e size v n xs) : Rd w size v n xs := by
  refine ⟨h.1, ?_⟩
  rcases h.2 with ⟨rfl, rfl⟩ | ⟨g, cap, cur, rfl, hb, hg, hnc, hcm, hcs, htake⟩
  · exact .inl ⟨rfl, _, _, rfl⟩
  · refine .inr ⟨g, 0, cap, rfl, hnc, hcm, (Array.getElem?_eq_some_iff.1 hg).1, fun j u hu => ?_⟩
    have := h.cells (g := g) rfl j u hu
    rw [Addr.add_lit] at this
    exact this
theorem Rd.keep {w w' : World} {size : Nat} {v : Value} {n : Nat} {xs : List Value} (h : Rd w size v n xs) (hs : w.heap.size ≤ w'.heap.size) (hk : ∀ b off, b < w.heap.size → w'.cell? ⟨b, off, none⟩ = w.cell? ⟨b, off, none⟩) : Rd w' size v n xs := by
  refine ⟨h.1, ?_⟩
  rcases h.2 with h2 | ⟨b, off, cap, hv, hnc, hcm, hb, hc⟩
  · exact .inl h2
  · exact .inr ⟨b, off, cap, hv, hnc, hcm, by omega, fun j u hu => (hk _ _ hb).trans (hc j u hu)⟩
theorem Rd.below {w w' : World} {size : Nat} {v : Value} {n : Nat} {xs : List Value} (h : Rd w size v n xs) (hb : Below w.heap.size w w') : Rd w' size v n xs :=
  h.keep hb.size fun _ _ hlt => hb.cell (p := ⟨_, _, none⟩) hlt
theorem Rd.alloc {w : World} {size : Nat} {v : Value} {n : Nat} {xs : List Value} (h : Rd w size v n xs) (o : Obj) : Rd (w.alloc o) size v n xs :=
  h.below ((Below.refl _ _).alloc (Nat.le_refl _) o)
theorem Rd.drew {w : World} {size : Nat} {v : Value} {n : Nat} {xs : List Value} (h : Rd w size v n xs) : Rd w.drew size v n xs := h
end Go.Proofs.Ytojgiienohpaiaa
/- Plain facts on types: a list of types as a first-order thing; size, depth, variables. Nothing here speaks of the program. -/
namespace Go.Proofs.Ytojgiienohpaiaa

/-- A slice: its address, its length, its capacity. -/
abbrev Sl := Option Addr × Nat × Nat
def slv (s : Sl) : Value := .slice s.1 s.2.1 s.2.2
/-- A list of types: each has a kind, a number, and a list of parts, which lies at a value. -/
inductive Fo where
  | nil : Fo
  | cons (k n : Int) (v : Sl) (ps rest : Fo) : Fo
namespace Fo
def len : Fo → Nat
  | nil => 0
  | cons _ _ _ _ r => r.len + 1
/-- All types in a list, with their parts. -/
def size : Fo → Nat
  | nil => 0
  | cons _ _ _ ps r => 1 + ps.size + r.size
/-- The depth of the deepest one. -/
def depth : Fo → Nat
  | nil => 0
  | cons _ _ _ ps r => max (1 + ps.depth) r.depth
def app : Fo → Fo → Fo
  | nil, g => g
  | cons k n v ps r, g => cons k n v ps (r.app g)
def drop : Nat → Fo → Fo
  | 0, f => f
  | _ + 1, nil => nil
  | j + 1, cons _ _ _ _ r => r.drop j
def take : Nat → Fo → Fo
  | 0, _ => nil
  | _ + 1, nil => nil
  | j + 1, cons k n v ps r => cons k n v ps (r.take j)
/-- The one at a place: its kind, its number, its parts. -/
def at_ : Nat → Fo → Int × Int × Sl × Fo
  | _, nil => (0, 0, (none, 0, 0), nil)
  | 0, cons k n v ps _ => (k, n, v, ps)
  | j + 1, cons _ _ _ _ r => r.at_ j
theorem size_app (f g : Fo) : (f.app g).size = f.size + g.size := by
  induction f with
  | nil => simp [app, size]
  | cons k n v ps r _ ih => simp [app, size, ih]; omega
theorem len_app (f g : Fo) : (f.app g).len = f.len + g.len := by
  induction f with
  | nil => simp [app, len]
  | cons k n v ps r _ ih => simp [app, len, ih]; omega
theorem app_nil (f : Fo) : f.app nil = f := by
  induction f with
  | nil => rfl
  | cons k n v ps r _ ih => simp [app, ih]
theorem app_assoc (f g h : Fo) : (f.app g).app h = f.app (g.app h) := by
  induction f with
  | nil => rfl
  | cons k n v ps r _ ih => simp [app, ih]
theorem len_le_size (f : Fo) : f.len ≤ f.size := by
  induction f with
  | nil => simp [len]
  | cons k n v ps r _ ih => simp [len, size]; omega
theorem drop_step (f : Fo) (j : Nat) (hj : j < f.len) : f.drop j = cons (f.at_ j).1 (f.at_ j).2.1 (f.at_ j).2.2.1 (f.at_ j).2.2.2 (f.drop (j + 1)) := by
  induction f generalizing j with
  | nil => simp [len] at hj
  | cons k n v ps r _ ih =>
    cases j with
    | zero => simp [drop, at_]
    | succ j => simp only [drop, at_]; exact ih j (by simp [len] at hj; omega)
theorem drop_len (f : Fo) : f.drop f.len = nil := by
  induction f with
  | nil => rfl
  | cons k n v ps r _ ih => simpa [len, drop] using ih
theorem drop_zero (f : Fo) : f.drop 0 = f := by cases f <;> rfl
theorem take_zero (f : Fo) : f.take 0 = nil := by cases f <;> rfl
theorem take_len (f : Fo) : f.take f.len = f := by
  induction f with
  | nil => rfl
  | cons k n v ps r _ ih => simp [len, take, ih]
theorem take_step (f : Fo) (j : Nat) (hj : j < f.len) : f.take (j + 1) = (f.take j).app (cons (f.at_ j).1 (f.at_ j).2.1 (f.at_ j).2.2.1 (f.at_ j).2.2.2 nil) := by
  induction f generalizing j with
  | nil => simp [len] at hj
  | cons k n v ps r _ ih =>
    cases j with
    | zero => simp [take, at_, app]
    | succ j => simp only [take, at_, app]; rw [ih j (by simp [len] at hj; omega)]
theorem at_size (f : Fo) (j : Nat) (hj : j < f.len) : (f.at_ j).2.2.2.size < f.size := by
  induction f generalizing j with
  | nil => simp [len] at hj
  | cons k n v ps r _ ih =>
    cases j with
    | zero => simp [at_, size]; omega
    | succ j => have := ih j (by simp [len] at hj; omega); simp [at_, size]; omega
theorem size_drop_step (f : Fo) (j : Nat) (hj : j < f.len) : (f.drop j).size = 1 + (f.at_ j).2.2.2.size + (f.drop (j + 1)).size := by
  rw [drop_step f j hj, size]
theorem size_take_step (f : Fo) (j : Nat) (hj : j < f.len) : (f.take (j + 1)).size = (f.take j).size + (1 + (f.at_ j).2.2.2.size) := by
  rw [take_step f j hj, size_app]
  simp [size]
theorem at_depth (f : Fo) (j : Nat) (hj : j < f.len) : (f.at_ j).2.2.2.depth + 1 ≤ f.depth := by
  induction f generalizing j with
  | nil => simp [len] at hj
  | cons k n v ps r _ ih =>
    cases j with
    | zero => simp [at_, depth]; omega
    | succ j => have := ih j (by simp [len] at hj; omega); simp [at_, depth]; omega
theorem size_take_le (f : Fo) (j : Nat) : (f.take j).size ≤ f.size := by
  induction f generalizing j with
  | nil => cases j <;> simp [take]
  | cons k n v ps r _ ih =>
    cases j with
    | zero => simp [take, size]
    | succ j => have := ih j; simp [take, size]; omega
end Fo
end Go.Proofs.Ytojgiienohpaiaa
/- Types in memory: cells that read as a list of types; a slice that does. Nothing here speaks of the program. -/
namespace Go.Proofs.Ytojgiienohpaiaa
open Go.RowKit

/-- A slice value, as a list of types lies: nothing, or cells at an address, all below block B. -/
def TyV (B : Nat) (w : World) : Fo → Value → Prop
  | .nil, v => ∃ A c, v = .slice A 0 c
  | .cons k n u ps r, v => ∃ b off cap, v = .slice (some ⟨b, off, none⟩) (r.len + 1) cap ∧ r.len + 1 ≤ cap ∧ cap ≤ maxLen ∧ b < B ∧
      TyC B w (.cons k n u ps r) b off
where
  /-- The cells from an address on. -/
  TyC (B : Nat) (w : World) : Fo → Nat → Nat → Prop
  | .nil, _, _ => True
  | .cons k n u ps r, b, off => w.cell? ⟨b, off, none⟩ = some (.int .i64 k) ∧ w.cell? ⟨b, off + 1, none⟩ = some (.int .i64 n) ∧
      w.cell? ⟨b, off + 2, none⟩ = some (slv u) ∧ TyV B w ps (slv u) ∧ TyC B w r b (off + 3)
abbrev TyC := @TyV.TyC
theorem tyV_nil {B : Nat} {w : World} {v : Value} : TyV B w .nil v ↔ ∃ A c, v = .slice A 0 c := by rw [TyV]
theorem tyV_cons {B : Nat} {w : World} {k n : Int} {u : Sl} {ps r : Fo} {v : Value} : TyV B w (.cons k n u ps r) v ↔ ∃ b off cap, v = .slice (some ⟨b, off, none⟩) (r.len + 1) cap ∧ r.len + 1 ≤ cap ∧ cap ≤ maxLen ∧ b < B ∧
      TyC B w (.cons k n u ps r) b off := by rw [TyV]
theorem tyC_cons {B : Nat} {w : World} {k n : Int} {u : Sl} {ps r : Fo} {b off : Nat} : TyC B w (.cons k n u ps r) b off ↔ w.cell? ⟨b, off, none⟩ = some (.int .i64 k) ∧ w.cell? ⟨b, off + 1, none⟩ = some (.int .i64 n) ∧
      w.cell? ⟨b, off + 2, none⟩ = some (slv u) ∧ TyV B w ps (slv u) ∧ TyC B w r b (off + 3) := by unfold TyC; rw [TyV.TyC]
theorem tyC_nil {B : Nat} {w : World} {b off : Nat} : TyC B w .nil b off := by unfold TyC; rw [TyV.TyC]; trivial
theorem TyV.slice {B : Nat} {w : World} {f : Fo} {v : Value} (h : TyV B w f v) : ∃ A c, v = .slice A f.len c := by
  cases f with
  | nil => exact tyV_nil.1 h
  | cons k n u ps r =>
    obtain ⟨b, off, cap, rfl, _⟩ := tyV_cons.1 h
    exact ⟨_, _, rfl⟩
theorem TyV.form {B : Nat} {w : World} {f : Fo} {v : Value} (h : TyV B w f v) (hn : 0 < f.len) : ∃ b off cap, v = .slice (some ⟨b, off, none⟩) f.len cap ∧ f.len ≤ cap ∧ cap ≤ maxLen ∧ b < B ∧ TyC B w f b off := by
  cases f with
  | nil => simp [Fo.len] at hn
  | cons k n u ps r => exact tyV_cons.1 h
theorem tyC_at {B : Nat} {w : World} {f : Fo} {b off : Nat} (h : TyC B w f b off) (j : Nat) (hj : j < f.len) :
    w.cell? ⟨b, off + j * 3, none⟩ = some (.int .i64 (f.at_ j).1) ∧ w.cell? ⟨b, off + j * 3 + 1, none⟩ = some (.int .i64 (f.at_ j).2.1) ∧
      w.cell? ⟨b, off + j * 3 + 2, none⟩ = some (slv (f.at_ j).2.2.1) ∧ TyV B w (f.at_ j).2.2.2 (slv (f.at_ j).2.2.1) := by
  induction f generalizing off j with
  | nil => simp [Fo.len] at hj
  | cons k n u ps r _ ih =>
    obtain ⟨h1, h2, h3, h3', h4⟩ := tyC_cons.1 h
    cases j with
    | zero => simpa [Fo.at_] using ⟨h1, h2, h3, h3'⟩
    | succ j =>
      have := ih h4 j (by simp [Fo.len] at hj; omega)
      rw [show off + (j + 1) * 3 = off + 3 + j * 3 by omega]
      exact this
theorem ty_keep {B B' : Nat} {w w' : World} (hB : B ≤ B') (hk : ∀ b off, b < B → w'.cell? ⟨b, off, none⟩ = w.cell? ⟨b, off, none⟩) (f : Fo) :
    (∀ v, TyV B w f v → TyV B' w' f v) ∧ (∀ b off, b < B → TyC B w f b off → TyC B' w' f b off) := by
  induction f with
  | nil => exact ⟨fun v h => tyV_nil.2 (tyV_nil.1 h), fun _ _ _ _ => tyC_nil⟩
  | cons k n u ps r ih1 ih2 =>
    have hc : ∀ b off, b < B → TyC B w (.cons k n u ps r) b off → TyC B' w' (.cons k n u ps r) b off := by
      intro b off hb h
      obtain ⟨h1, h2, h3, h4, h5⟩ := tyC_cons.1 h
      exact tyC_cons.2 ⟨(hk _ _ hb).trans h1, (hk _ _ hb).trans h2, (hk _ _ hb).trans h3, ih1.1 (slv u) h4, ih2.2 _ _ hb h5⟩
    refine ⟨fun v h => ?_, hc⟩
    obtain ⟨b, off, cap, hv, h1, h2, h3, h4⟩ := tyV_cons.1 h
    exact tyV_cons.2 ⟨b, off, cap, hv, h1, h2, by omega, hc b off h3 h4⟩
theorem TyV.keep {B B' : Nat} {w w' : World} {f : Fo} {v : Value} (h : TyV B w f v) (hB : B ≤ B') (hk : ∀ b off, b < B → w'.cell? ⟨b, off, none⟩ = w.cell? ⟨b, off, none⟩) : TyV B' w' f v := (ty_keep hB hk f).1 v h
theorem TyV.below {B : Nat} {w w' : World} {f : Fo} {v : Value} (h : TyV B w f v) (hb : Below B w w') : TyV B w' f v := h.keep (Nat.le_refl _) fun b off hlt => hb.cell (p := ⟨b, off, none⟩) hlt
/-- A type as a value: its kind, its number, its parts. -/
def tyVal (k n : Int) (v : Value) : Value := .agg #[.int .i64 k, .int .i64 n, v]
end Go.Proofs.Ytojgiienohpaiaa
