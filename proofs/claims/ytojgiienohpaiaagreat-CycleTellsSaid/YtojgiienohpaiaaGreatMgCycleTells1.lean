/- Texts of one proof, one behind the other. -/
import Derived.Lib.Hide
import Derived.OrdersHeld
import Derived.Deep.RegionHeld3
import Derived.Below
import Derived.WalkKit
import Derived.WalkSpells
import Derived.WalkLawsBesides
import Derived.RangeFuncFrom
import Derived.Maps.AppendAt
import Derived.Deep.AppendLies
import Derived.RegionTactic
import Derived.OwnWalk
import Derived.Test.YtojgiienohpaiaaGreatRows
import Derived.Deep.QuietTactic
import Derived.BigQuiet
import Derived.RangeFuncNested
import Derived.RangeFuncBound
import Derived.RangeFuncCalls
import Derived.RangeFuncLeaves
import Derived.RangeFuncBox
import Derived.Shelf.Abstract
import Derived.Shelf.RegionOpen
import Derived.OwnWalkIn
import Derived.TacticsInMore
import Derived.LoopNIn
import Derived.LoopIn
import Derived.Outline
namespace Go.Proofs.YtojgiienohpaiaaGreat
def Chl (ch : Nat → List Nat) (y x : Nat) : Prop := y ∈ ch x
theorem acc_chain {ch : Nat → List Nat} {a : Nat} (h : Acc (Chl ch) a) : ∀ f : Nat → Nat, f 0 = a → (∀ i, f (i + 1) ∈ ch (f i)) → False := by
  induction h with
  | intro a _ ih =>
    intro f h0 hf
    exact ih (f 1) (by have := hf 0; rw [h0] at this; exact this) (fun i => f (i + 1)) rfl fun i => hf (i + 1)
theorem acc_round {ch : Nat → List Nat} {l : List Nat} (hl : 0 < l.length) (h : ∀ i a b, l[i]? = some a → l[i + 1]? = some b → b ∈ ch a) (hr : ∀ a b, l[l.length - 1]? = some a → l[0]? = some b → b ∈ ch a) {x : Nat} (hx : x ∈ l) : ¬ Acc (Chl ch) x := by
  intro hacc
  obtain ⟨s, hs, rfl⟩ := List.getElem_of_mem hx
  have hm : ∀ i, (i + s) % l.length < l.length := fun i => Nat.mod_lt _ hl
  refine acc_chain hacc (fun i => l[(i + s) % l.length]'(hm i)) (by simp [Nat.mod_eq_of_lt hs]) fun i => ?_
  by_cases hc : (i + s) % l.length + 1 < l.length
  · have e : (i + 1 + s) % l.length = (i + s) % l.length + 1 := by
      rw [show i + 1 + s = i + s + 1 by omega, Nat.add_mod, Nat.mod_eq_of_lt (show 1 < l.length by omega), Nat.mod_eq_of_lt hc]
    refine h ((i + s) % l.length) _ _ (List.getElem?_eq_getElem (hm i)) ?_
    rw [List.getElem?_eq_getElem hc]
    simp only [e]
  · have hlt := hm i
    have e0 : (i + s) % l.length = l.length - 1 := by omega
    have e : (i + 1 + s) % l.length = 0 := by
      have h1 : i + 1 + s = l.length * ((i + s) / l.length) + l.length := by
        have := Nat.div_add_mod (i + s) l.length
        omega
      rw [h1, Nat.add_mod_right, Nat.mul_mod_right]
    refine hr _ _ ?_ ?_
    · rw [← e0, List.getElem?_eq_getElem (hm i)]
    · rw [List.getElem?_eq_getElem hl]
      simp only [e]
def upe (e : Nat → Option Bool) (x : Nat) (b : Bool) : Nat → Option Bool := fun y => if y = x then some b else e y
structure Dfs (ch : Nat → List Nat) (e : Nat → Option Bool) (S : List (Nat × Nat)) : Prop where
  on : ∀ x ∈ S, e x.1 = some false
  nd : (S.map (·.1)).Nodup
  chain : ∀ (i : Nat) (a b : Nat × Nat), S[i]? = some a → S[i + 1]? = some b → (ch a.1)[a.2]? = some b.1
  past : ∀ x ∈ S, ∀ t, t < x.2 → ∃ y, (ch x.1)[t]? = some y ∧ e y = some true
  le : ∀ x ∈ S, x.2 ≤ (ch x.1).length
  tt : ∀ x, e x = some true → Acc (Chl ch) x
  ff : ∀ x, e x = some false → (∀ s ∈ S, s.1 ≠ x) → ¬ Acc (Chl ch) x
section CyPs
variable {ch : Nat → List Nat} {e : Nat → Option Bool} {S : List (Nat × Nat)} {r k x : Nat}
theorem Dfs.none : Dfs ch (fun _ => .none) [] :=
  ⟨fun x h => by simp at h, by simp, fun i a b h => by simp at h, fun x h => by simp at h, fun x h => by simp at h, (fun x h => by cases h), (fun x h => by cases h)⟩
theorem Dfs.push (h : Dfs ch e S) (hx : ∀ a, S[S.length - 1]? = some a → (ch a.1)[a.2]? = some x) (hn : e x = .none) : Dfs ch (upe e x false) (S ++ [(x, 0)]) := by
  have hne : ∀ s ∈ S, s.1 ≠ x := fun s hs he => by have := h.on s hs; rw [he, hn] at this; cases this
  have hu : ∀ y, y ≠ x → upe e x false y = e y := fun y hy => by unfold upe; rw [if_neg hy]
  refine ⟨fun s hs => ?_, ?_, fun i a b ha hb => ?_, fun s hs t ht => ?_, fun s hs => ?_, fun y hy => ?_, fun y hy ho => ?_⟩
  · rcases List.mem_append.1 hs with hs | hs
    · rw [hu _ (hne s hs)]; exact h.on s hs
    · obtain rfl : s = (x, 0) := by simpa using hs
      simp [upe]
  · rw [List.map_append, List.nodup_append]
    refine ⟨h.nd, by simp, fun a ha b hb => ?_⟩
    obtain ⟨s, hs, rfl⟩ := List.mem_map.1 ha
    obtain rfl : b = x := by simpa using hb
    exact hne s hs
  · have hbl := (List.getElem?_eq_some_iff.1 hb).1
    rw [List.length_append, List.length_singleton] at hbl
    rw [List.getElem?_append_left (by omega)] at ha
    by_cases hi : i + 1 < S.length
    · rw [List.getElem?_append_left hi] at hb
      exact h.chain i a b ha hb
    · have e1 : i + 1 = S.length := by omega
      rw [List.getElem?_append_right (by omega), e1, Nat.sub_self] at hb
      obtain rfl : b = (x, 0) := by simpa using hb.symm
      exact hx a (by rw [show S.length - 1 = i by omega]; exact ha)
  · rcases List.mem_append.1 hs with hs | hs
    · obtain ⟨y, h1, h2⟩ := h.past s hs t ht
      refine ⟨y, h1, ?_⟩
      rw [hu y (fun he => by rw [he, hn] at h2; cases h2)]
      exact h2
    · obtain rfl : s = (x, 0) := by simpa using hs
      exact absurd ht (Nat.not_lt_zero _)
  · rcases List.mem_append.1 hs with hs | hs
    · exact h.le s hs
    · obtain rfl : s = (x, 0) := by simpa using hs
      exact Nat.zero_le _
  · by_cases he : y = x
    · subst he; simp [upe] at hy
    · rw [hu y he] at hy; exact h.tt y hy
  · have he : y ≠ x := fun he => ho (x, 0) (by simp) he.symm
    rw [hu y he] at hy
    exact h.ff y hy fun s hs => ho s (List.mem_append_left _ hs)
theorem Dfs.step (h : Dfs ch e (S ++ [(r, k)])) (hx : (ch r)[k]? = some x) (ht : e x = some true) : Dfs ch e (S ++ [(r, k + 1)]) := by
  have hk := (List.getElem?_eq_some_iff.1 hx).1
  have hm : ∀ s, s ∈ S ++ [(r, k + 1)] → s ∈ S ++ [(r, k)] ∨ s = (r, k + 1) := fun s hs => by
    rcases List.mem_append.1 hs with hs | hs
    · exact .inl (List.mem_append_left _ hs)
    · exact .inr (by simpa using hs)
  refine ⟨fun s hs => ?_, by simpa using h.nd, fun i a b ha hb => ?_, fun s hs t htt => ?_, fun s hs => ?_, h.tt, fun y hy ho => h.ff y hy fun s hs => ?_⟩
  · rcases hm s hs with hs | rfl
    · exact h.on s hs
    · exact h.on (r, k) (by simp)
  · have hbl := (List.getElem?_eq_some_iff.1 hb).1
    rw [List.length_append, List.length_singleton] at hbl
    rw [List.getElem?_append_left (by omega)] at ha
    by_cases hi : i + 1 < S.length
    · rw [List.getElem?_append_left hi] at hb
      exact h.chain i a b (by rw [List.getElem?_append_left (by omega)]; exact ha) (by rw [List.getElem?_append_left hi]; exact hb)
    · have e1 : i + 1 = S.length := by omega
      rw [List.getElem?_append_right (by omega), e1, Nat.sub_self] at hb
      obtain rfl : b = (r, k + 1) := by simpa using hb.symm
      exact h.chain i a (r, k) (by rw [List.getElem?_append_left (by omega)]; exact ha) (by rw [List.getElem?_append_right (by omega), e1, Nat.sub_self]; rfl)
  · rcases hm s hs with hs | rfl
    · exact h.past s hs t htt
    · rcases Nat.lt_or_ge t k with h1 | h1
      · exact h.past (r, k) (by simp) t h1
      · obtain rfl : t = k := by have htt : t < k + 1 := htt; omega
        exact ⟨x, hx, ht⟩
  · rcases hm s hs with hs | rfl
    · exact h.le s hs
    · exact hk
  · rcases List.mem_append.1 hs with hs | hs
    · exact ho s (List.mem_append_left _ hs)
    · obtain rfl : s = (r, k) := by simpa using hs
      exact ho (r, k + 1) (by simp)
theorem Dfs.pop (h : Dfs ch e (S ++ [(r, k)])) (b : Bool) (hb : b = true → Acc (Chl ch) r) (hf : b = false → ¬ Acc (Chl ch) r) : Dfs ch (upe e r b) S := by
  have hnd := h.nd
  rw [List.map_append, List.nodup_append] at hnd
  have hne : ∀ s ∈ S, s.1 ≠ r := fun s hs => hnd.2.2 s.1 (List.mem_map_of_mem hs) r (by simp)
  have hu : ∀ y, y ≠ r → upe e r b y = e y := fun y hy => by unfold upe; rw [if_neg hy]
  have hr := h.on (r, k) (by simp)
  refine ⟨fun s hs => ?_, hnd.1, fun i a c ha hc => ?_, fun s hs t ht => ?_, fun s hs => h.le s (List.mem_append_left _ hs), fun y hy => ?_, fun y hy ho => ?_⟩
  · rw [hu _ (hne s hs)]; exact h.on s (List.mem_append_left _ hs)
  · have h1 := (List.getElem?_eq_some_iff.1 ha).1
    have h2 := (List.getElem?_eq_some_iff.1 hc).1
    exact h.chain i a c (by rw [List.getElem?_append_left h1]; exact ha) (by rw [List.getElem?_append_left h2]; exact hc)
  · obtain ⟨y, h1, h2⟩ := h.past s (List.mem_append_left _ hs) t ht
    refine ⟨y, h1, ?_⟩
    rw [hu y (fun he => by rw [he] at h2; rw [hr] at h2; cases h2)]
    exact h2
  · by_cases he : y = r
    · subst he
      simp only [upe, if_pos] at hy
      exact hb (by simpa using hy)
    · rw [hu y he] at hy; exact h.tt y hy
  · by_cases he : y = r
    · subst he
      simp only [upe, if_pos] at hy
      exact hf (by simpa using hy)
    · rw [hu y he] at hy
      refine h.ff y hy fun s hs => ?_
      rcases List.mem_append.1 hs with hs | hs
      · exact ho s hs
      · obtain rfl : s = (r, k) := by simpa using hs
        exact fun e => he e.symm
theorem Dfs.whole (h : Dfs ch e (S ++ [(r, k)])) (hk : k = (ch r).length) : Acc (Chl ch) r := by
  refine ⟨r, fun y hy => ?_⟩
  obtain ⟨t, ht, rfl⟩ := List.getElem_of_mem (show y ∈ ch r from hy)
  obtain ⟨z, h1, h2⟩ := h.past (r, k) (by simp) t (by show t < k; omega)
  rw [List.getElem?_eq_getElem ht] at h1
  cases h1
  exact h.tt _ h2
theorem Dfs.stuck (h : Dfs ch e (S ++ [(r, k)])) (hx : (ch r)[k]? = some x) (hf : e x = some false) : ¬ Acc (Chl ch) r := by
  have hxr : x ∈ ch r := List.mem_of_getElem? hx
  by_cases ho : ∀ s ∈ S ++ [(r, k)], s.1 ≠ x
  · exact fun hacc => h.ff x hf ho (hacc.inv hxr)
  · have ho : ∃ s, s ∈ S ++ [(r, k)] ∧ s.1 = x := Classical.byContradiction fun hn => ho fun s hs he => hn ⟨s, hs, he⟩
    obtain ⟨s, hs, he⟩ := ho
    obtain ⟨i, hi, hsi⟩ := List.getElem_of_mem hs
    have hT : (S ++ [(r, k)]).length = S.length + 1 := by simp
    -- from x on to the last one
    obtain ⟨l, hl⟩ : ∃ l, ((S ++ [(r, k)]).drop i).map (·.1) = l := ⟨_, rfl⟩
    have hll : l.length = S.length + 1 - i := by rw [← hl]; simp
    have hat : ∀ t, l[t]? = ((S ++ [(r, k)])[i + t]?).map (·.1) := fun t => by rw [← hl, List.getElem?_map, List.getElem?_drop]
    have hlast : l[l.length - 1]? = some r := by
      rw [hat, hll, show i + (S.length + 1 - i - 1) = S.length by omega, List.getElem?_append_right (Nat.le_refl _), Nat.sub_self]
      rfl
    have h0 : l[0]? = some x := by
      rw [hat, Nat.add_zero, List.getElem?_eq_getElem hi, hsi]
      simp [he]
    refine acc_round (l := l) (by omega) (fun t a b ha hb => ?_) (fun a b ha hb => ?_) (List.mem_of_getElem? hlast)
    · rw [hat] at ha hb
      obtain ⟨p, hp, rfl⟩ := Option.map_eq_some_iff.1 ha
      obtain ⟨q, hq, rfl⟩ := Option.map_eq_some_iff.1 hb
      exact List.mem_of_getElem? (h.chain (i + t) p q hp (by rw [show i + t + 1 = i + (t + 1) by omega]; exact hq))
    · rw [hlast] at ha
      rw [h0] at hb
      cases ha
      cases hb
      exact hxr
end CyPs
end Go.Proofs.YtojgiienohpaiaaGreat
namespace Go.Proofs.YtojgiienohpaiaaGreat
open Go.RowKit
variable {P : Program} {ops : Array Oper} {Q : Exit → Act → World → Prop} {md : Region.Mode}

def LS (W0 : World) (w : World) : Prop := Below W0.heap.size W0 w
def Bears (V : Value → World → Prop) : Prop := ∀ v w w', V v w → Below w.heap.size w w' → V v w'
abbrev Gives (P : Program) (f : FuncId) (args : Array Value) (w : World) (V : Value → World → Prop) : Prop :=
  Calls P f args w fun e w' => ∃ v, e = .returned v ∧ V v w' ∧ Below w.heap.size w w'
theorem any_take {S : World → Prop} {i : Nat} {oi : Oper} (d : Option Tmp) (v : Value) {fuel : Nat} {listed : Array Bool} {a : Act} {w : World} (hi : ops[i]? = some oi) (hd : oi.dst = d)
    (hs : Region.noSelect ops = true) (hf : Region.free md ops listed i = true) (hr : (Region.ready md ops listed).contains i = true)
    (hQ : ∀ c a w, Q (.panic c) (a.put d v) w → Q (.panic c) a w) (hy : YieldsIf P ops S oi v a) (hS : S w)
    (h : wpAnyH P md ops Q S fuel (listed.setIfInBounds i true) (a.put d v) w) : wpAnyH P md ops Q S (fuel + 1) listed a w := by
  subst hd; exact wpAnyH_take hi hs hf hr hQ hy hS h
end Go.Proofs.YtojgiienohpaiaaGreat
namespace Go.Proofs.YtojgiienohpaiaaGreat
open Go.RowKit
section
variable {P : Program} {ops : Array Oper} {Q : Exit → Act → World → Prop} {md : Region.Mode} {S : World → Prop}
theorem ops_val {o : Oper} {i : Nat} {d : Option Tmp} {v : Value} {a : Act} {w w' : World} {K : Act → World → Prop}
    (hi : ops[i]? = some o) (hd : o.dst = d) (hw : Region.wanted o (yielded ops a.tmps) = true) (he : (execOp a.eval o).run P w = .ok (.value v) w') (hS : S w')
    (hk : K (a.put d v) w') : wpOp P ops Q i (fun a' w' => S w' ∧ K a' w') a w := by
  subst hd
  unfold wpOp
  simp only [hi]
  rw [if_pos hw]
  refine .inl ?_
  unfold Oper.wp
  rw [he]
  simp only [Oper.upon]
  exact ⟨hS, hk⟩
theorem ops_skip {o : Oper} {i : Nat} {a : Act} {w w' : World} {K : Act → World → Prop}
    (hi : ops[i]? = some o) (hw : Region.wanted o (yielded ops a.tmps) = true) (he : (execOp a.eval o).run P w = .ok .skip w') (hS : S w')
    (hd : o.dst = none) (hk : K a w') : wpOp P ops Q i (fun a' w' => S w' ∧ K a' w') a w := by
  unfold wpOp
  simp only [hi]
  rw [if_pos hw]
  refine .inl ?_
  unfold Oper.wp
  rw [he]
  simp only [Oper.upon]
  rw [hd]
  exact ⟨hS, hk⟩
theorem ops_call {o : Oper} {i : Nat} {d : Option Tmp} {f : FuncId} {args : Array Value} {a : Act} {w : World} {K : Act → World → Prop}
    (hi : ops[i]? = some o) (hd : o.dst = d) (hw : Region.wanted o (yielded ops a.tmps) = true) (he : (execOp a.eval o).run P w = .ok (.enter f args) w)
    (hc : Calls P f args w fun e w' => ∃ v, e = .returned v ∧ S w' ∧ K (a.put d v) w') : wpOp P ops Q i (fun a' w' => S w' ∧ K a' w') a w := by
  subst hd
  unfold wpOp
  simp only [hi]
  rw [if_pos hw]
  refine .inl ?_
  unfold Oper.wp
  rw [he]
  simp only [Oper.upon]
  refine hc.mono fun e w' ⟨v, hv, hS, hk⟩ => ?_
  subst hv
  exact ⟨hS, hk⟩
end
end Go.Proofs.YtojgiienohpaiaaGreat
namespace Go.Proofs.YtojgiienohpaiaaGreat
open Go.RowKit

theorem cells_new (w : World) (L : List Value) (t : TypeId) : ∀ (j : Nat) (u : Value), L[j]? = some u → (w.alloc (.cells L.toArray t)).cell? ((⟨w.heap.size, 0, none⟩ : Addr).add j) = some u := by
  intro j u hu
  have h := cell_of_row (w.alloc (.cells L.toArray t)) w.heap.size j L.toArray t (0, 0) (heap_alloc_new w _)
  rw [Addr.add_lit, Nat.zero_add, h]
  simpa using hu
theorem add_lit0 (g i : Nat) : (⟨g, 0, none⟩ : Addr).add i = ⟨g, i, none⟩ := by rw [Addr.add_lit, Nat.zero_add]
def Rd (w : World) (size : Nat) (v : Value) (n : Nat) (xs : List Value) : Prop :=
  xs.length = n * size ∧ ((n = 0 ∧ ∃ A c, v = .slice A 0 c) ∨
    ∃ b off cap, v = .slice (some ⟨b, off, none⟩) n cap ∧ n ≤ cap ∧ cap ≤ maxLen ∧ b < w.heap.size ∧ ∀ j u, xs[j]? = some u → w.cell? ⟨b, off + j, none⟩ = some u)

theorem Rd.of_own {w : World} {base : Nat} {e : TypeId} {size : Nat} {v : Value} {n : Nat} {xs : List Value} (h : w.ownsRow base e size v n xs) : Rd w size v n xs := by
  refine ⟨h.1, ?_⟩
  rcases h.2 with ⟨rfl, rfl⟩ | ⟨g, cap, cur, rfl, hb, hg, hnc, hcm, hcs, htake⟩
  · exact .inl ⟨rfl, _, _, rfl⟩
  · refine .inr ⟨g, 0, cap, rfl, hnc, hcm, (Array.getElem?_eq_some_iff.1 hg).1, fun j u hu => ?_⟩
    have := h.cells (g := g) rfl j u hu
    rw [Addr.add_lit] at this
    exact this
theorem Rd.keep {w w' : World} {size : Nat} {v : Value} {n : Nat} {xs : List Value} (h : Rd w size v n xs) (hs : w.heap.size ≤ w'.heap.size) (hk : ∀ b off, b < w.heap.size → w'.cell? ⟨b, off, none⟩ = w.cell? ⟨b, off, none⟩) : Rd w' size v n xs := by
  refine ⟨h.1, ?_⟩
  rcases h.2 with h2 | ⟨b, off, cap, hv, hnc, hcm, hb, hc⟩
  · exact .inl h2
  · exact .inr ⟨b, off, cap, hv, hnc, hcm, by omega, fun j u hu => (hk _ _ hb).trans (hc j u hu)⟩
theorem Rd.below {w w' : World} {size : Nat} {v : Value} {n : Nat} {xs : List Value} (h : Rd w size v n xs) (hb : Below w.heap.size w w') : Rd w' size v n xs :=
  h.keep hb.size fun _ _ hlt => hb.cell (p := ⟨_, _, none⟩) hlt
theorem Rd.alloc {w : World} {size : Nat} {v : Value} {n : Nat} {xs : List Value} (h : Rd w size v n xs) (o : Obj) : Rd (w.alloc o) size v n xs :=
  h.below ((Below.refl _ _).alloc (Nat.le_refl _) o)
theorem Rd.drew {w : World} {size : Nat} {v : Value} {n : Nat} {xs : List Value} (h : Rd w size v n xs) : Rd w.drew size v n xs := h
end Go.Proofs.YtojgiienohpaiaaGreat
namespace Go.Proofs.YtojgiienohpaiaaGreat

abbrev Sl := Option Addr × Nat × Nat
def slv (s : Sl) : Value := .slice s.1 s.2.1 s.2.2
inductive Fo where
  | nil : Fo
  | cons (k n : Int) (v : Sl) (ps rest : Fo) : Fo
namespace Fo
def len : Fo → Nat
  | nil => 0
  | cons _ _ _ _ r => r.len + 1
def size : Fo → Nat
  | nil => 0
  | cons _ _ _ ps r => 1 + ps.size + r.size
def depth : Fo → Nat
  | nil => 0
  | cons _ _ _ ps r => max (1 + ps.depth) r.depth
def app : Fo → Fo → Fo
  | nil, g => g
  | cons k n v ps r, g => cons k n v ps (r.app g)
def drop : Nat → Fo → Fo
  | 0, f => f
  | _ + 1, nil => nil
  | j + 1, cons _ _ _ _ r => r.drop j
def take : Nat → Fo → Fo
  | 0, _ => nil
  | _ + 1, nil => nil
  | j + 1, cons k n v ps r => cons k n v ps (r.take j)
def at_ : Nat → Fo → Int × Int × Sl × Fo
  | _, nil => (0, 0, (none, 0, 0), nil)
  | 0, cons k n v ps _ => (k, n, v, ps)
  | j + 1, cons _ _ _ _ r => r.at_ j
theorem size_app (f g : Fo) : (f.app g).size = f.size + g.size := by
  induction f with
  | nil => simp [app, size]
  | cons k n v ps r _ ih => simp [app, size, ih]; omega
theorem len_app (f g : Fo) : (f.app g).len = f.len + g.len := by
  induction f with
  | nil => simp [app, len]
  | cons k n v ps r _ ih => simp [app, len, ih]; omega
theorem len_le_size (f : Fo) : f.len ≤ f.size := by
  induction f with
  | nil => simp [len]
  | cons k n v ps r _ ih => simp [len, size]; omega
theorem drop_step (f : Fo) (j : Nat) (hj : j < f.len) : f.drop j = cons (f.at_ j).1 (f.at_ j).2.1 (f.at_ j).2.2.1 (f.at_ j).2.2.2 (f.drop (j + 1)) := by
  induction f generalizing j with
  | nil => simp [len] at hj
  | cons k n v ps r _ ih =>
    cases j with
    | zero => simp [drop, at_]
    | succ j => simp only [drop, at_]; exact ih j (by simp [len] at hj; omega)
theorem drop_len (f : Fo) : f.drop f.len = nil := by
  induction f with
  | nil => rfl
  | cons k n v ps r _ ih => simpa [len, drop] using ih
theorem drop_zero (f : Fo) : f.drop 0 = f := by cases f <;> rfl
theorem take_zero (f : Fo) : f.take 0 = nil := by cases f <;> rfl
theorem take_len (f : Fo) : f.take f.len = f := by
  induction f with
  | nil => rfl
  | cons k n v ps r _ ih => simp [len, take, ih]
theorem take_step (f : Fo) (j : Nat) (hj : j < f.len) : f.take (j + 1) = (f.take j).app (cons (f.at_ j).1 (f.at_ j).2.1 (f.at_ j).2.2.1 (f.at_ j).2.2.2 nil) := by
  induction f generalizing j with
  | nil => simp [len] at hj
  | cons k n v ps r _ ih =>
    cases j with
    | zero => simp [take, at_, app]
    | succ j => simp only [take, at_, app]; rw [ih j (by simp [len] at hj; omega)]
theorem at_size (f : Fo) (j : Nat) (hj : j < f.len) : (f.at_ j).2.2.2.size < f.size := by
  induction f generalizing j with
  | nil => simp [len] at hj
  | cons k n v ps r _ ih =>
    cases j with
    | zero => simp [at_, size]; omega
    | succ j => have := ih j (by simp [len] at hj; omega); simp [at_, size]; omega
theorem size_take_step (f : Fo) (j : Nat) (hj : j < f.len) : (f.take (j + 1)).size = (f.take j).size + (1 + (f.at_ j).2.2.2.size) := by
  rw [take_step f j hj, size_app]
  simp [size]
theorem size_take_le (f : Fo) (j : Nat) : (f.take j).size ≤ f.size := by
  induction f generalizing j with
  | nil => cases j <;> simp [take]
  | cons k n v ps r _ ih =>
    cases j with
    | zero => simp [take, size]
    | succ j => have := ih j; simp [take, size]; omega
end Fo
end Go.Proofs.YtojgiienohpaiaaGreat
namespace Go.Proofs.YtojgiienohpaiaaGreat
open Go.RowKit

def TyV (B : Nat) (w : World) : Fo → Value → Prop
  | .nil, v => ∃ A c, v = .slice A 0 c
  | .cons k n u ps r, v => ∃ b off cap, v = .slice (some ⟨b, off, none⟩) (r.len + 1) cap ∧ r.len + 1 ≤ cap ∧ cap ≤ maxLen ∧ b < B ∧
      TyC B w (.cons k n u ps r) b off
where
  TyC (B : Nat) (w : World) : Fo → Nat → Nat → Prop
  | .nil, _, _ => True
  | .cons k n u ps r, b, off => w.cell? ⟨b, off, none⟩ = some (.int .i64 k) ∧ w.cell? ⟨b, off + 1, none⟩ = some (.int .i64 n) ∧
      w.cell? ⟨b, off + 2, none⟩ = some (slv u) ∧ TyV B w ps (slv u) ∧ TyC B w r b (off + 3)
abbrev TyC := @TyV.TyC
theorem tyV_nil {B : Nat} {w : World} {v : Value} : TyV B w .nil v ↔ ∃ A c, v = .slice A 0 c := by rw [TyV]
theorem tyV_cons {B : Nat} {w : World} {k n : Int} {u : Sl} {ps r : Fo} {v : Value} : TyV B w (.cons k n u ps r) v ↔ ∃ b off cap, v = .slice (some ⟨b, off, none⟩) (r.len + 1) cap ∧ r.len + 1 ≤ cap ∧ cap ≤ maxLen ∧ b < B ∧
      TyC B w (.cons k n u ps r) b off := by rw [TyV]
theorem tyC_cons {B : Nat} {w : World} {k n : Int} {u : Sl} {ps r : Fo} {b off : Nat} : TyC B w (.cons k n u ps r) b off ↔ w.cell? ⟨b, off, none⟩ = some (.int .i64 k) ∧ w.cell? ⟨b, off + 1, none⟩ = some (.int .i64 n) ∧
      w.cell? ⟨b, off + 2, none⟩ = some (slv u) ∧ TyV B w ps (slv u) ∧ TyC B w r b (off + 3) := by unfold TyC; rw [TyV.TyC]
theorem tyC_nil {B : Nat} {w : World} {b off : Nat} : TyC B w .nil b off := by unfold TyC; rw [TyV.TyC]; trivial
theorem TyV.slice {B : Nat} {w : World} {f : Fo} {v : Value} (h : TyV B w f v) : ∃ A c, v = .slice A f.len c := by
  cases f with
  | nil => exact tyV_nil.1 h
  | cons k n u ps r =>
    obtain ⟨b, off, cap, rfl, _⟩ := tyV_cons.1 h
    exact ⟨_, _, rfl⟩
theorem TyV.form {B : Nat} {w : World} {f : Fo} {v : Value} (h : TyV B w f v) (hn : 0 < f.len) : ∃ b off cap, v = .slice (some ⟨b, off, none⟩) f.len cap ∧ f.len ≤ cap ∧ cap ≤ maxLen ∧ b < B ∧ TyC B w f b off := by
  cases f with
  | nil => simp [Fo.len] at hn
  | cons k n u ps r => exact tyV_cons.1 h
theorem tyC_at {B : Nat} {w : World} {f : Fo} {b off : Nat} (h : TyC B w f b off) (j : Nat) (hj : j < f.len) :
    w.cell? ⟨b, off + j * 3, none⟩ = some (.int .i64 (f.at_ j).1) ∧ w.cell? ⟨b, off + j * 3 + 1, none⟩ = some (.int .i64 (f.at_ j).2.1) ∧
      w.cell? ⟨b, off + j * 3 + 2, none⟩ = some (slv (f.at_ j).2.2.1) ∧ TyV B w (f.at_ j).2.2.2 (slv (f.at_ j).2.2.1) := by
  induction f generalizing off j with
  | nil => simp [Fo.len] at hj
  | cons k n u ps r _ ih =>
    obtain ⟨h1, h2, h3, h3', h4⟩ := tyC_cons.1 h
    cases j with
    | zero => simpa [Fo.at_] using ⟨h1, h2, h3, h3'⟩
    | succ j =>
      have := ih h4 j (by simp [Fo.len] at hj; omega)
      rw [show off + (j + 1) * 3 = off + 3 + j * 3 by omega]
      exact this
theorem ty_keep {B B' : Nat} {w w' : World} (hB : B ≤ B') (hk : ∀ b off, b < B → w'.cell? ⟨b, off, none⟩ = w.cell? ⟨b, off, none⟩) (f : Fo) :
    (∀ v, TyV B w f v → TyV B' w' f v) ∧ (∀ b off, b < B → TyC B w f b off → TyC B' w' f b off) := by
  induction f with
  | nil => exact ⟨fun v h => tyV_nil.2 (tyV_nil.1 h), fun _ _ _ _ => tyC_nil⟩
  | cons k n u ps r ih1 ih2 =>
    have hc : ∀ b off, b < B → TyC B w (.cons k n u ps r) b off → TyC B' w' (.cons k n u ps r) b off := by
      intro b off hb h
      obtain ⟨h1, h2, h3, h4, h5⟩ := tyC_cons.1 h
      exact tyC_cons.2 ⟨(hk _ _ hb).trans h1, (hk _ _ hb).trans h2, (hk _ _ hb).trans h3, ih1.1 (slv u) h4, ih2.2 _ _ hb h5⟩
    refine ⟨fun v h => ?_, hc⟩
    obtain ⟨b, off, cap, hv, h1, h2, h3, h4⟩ := tyV_cons.1 h
    exact tyV_cons.2 ⟨b, off, cap, hv, h1, h2, by omega, hc b off h3 h4⟩
theorem TyV.keep {B B' : Nat} {w w' : World} {f : Fo} {v : Value} (h : TyV B w f v) (hB : B ≤ B') (hk : ∀ b off, b < B → w'.cell? ⟨b, off, none⟩ = w.cell? ⟨b, off, none⟩) : TyV B' w' f v := (ty_keep hB hk f).1 v h
theorem TyV.below {B : Nat} {w w' : World} {f : Fo} {v : Value} (h : TyV B w f v) (hb : Below B w w') : TyV B w' f v := h.keep (Nat.le_refl _) fun b off hlt => hb.cell (p := ⟨b, off, none⟩) hlt
def tyVal (k n : Int) (v : Value) : Value := .agg #[.int .i64 k, .int .i64 n, v]
end Go.Proofs.YtojgiienohpaiaaGreat
namespace Go.Proofs.YtojgiienohpaiaaGreat
open Go.RowKit
structure Btw (B H : Nat) (W W' : World) : Prop where
  os : W'.os = W.os
  tape : W'.tape = W.tape
  output : W'.output = W.output
  size : W.heap.size ≤ W'.heap.size
  block : ∀ b, (b < B ∨ H ≤ b) → b < W.heap.size → W'.heap[b]? = W.heap[b]?
theorem Btw.below {B H : Nat} {W W' : World} (h : Btw B H W W') (hB : B ≤ W.heap.size) : Below B W W' := ⟨h.os, h.tape, h.output, h.size, fun b hb => h.block b (.inl hb) (by omega)⟩
theorem Btw.trans {B H : Nat} {a b c : World} (x : Btw B H a b) (y : Btw B H b c) : Btw B H a c :=
  ⟨y.os.trans x.os, y.tape.trans x.tape, y.output.trans x.output, Nat.le_trans x.size y.size, fun k hk hl => (y.block k hk (by have := x.size; omega)).trans (x.block k hk hl)⟩
structure Bt3 (B H M : Nat) (W W' : World) : Prop where
  os : W'.os = W.os
  tape : W'.tape = W.tape
  output : W'.output = W.output
  size : W.heap.size ≤ W'.heap.size
  block : ∀ b, (b < B ∨ (H ≤ b ∧ b < M)) → b < W.heap.size → W'.heap[b]? = W.heap[b]?
  same : ∀ b o, M ≤ b → W.heap[b]? = some o → o.isCells = false → W'.heap[b]? = some o
theorem Bt3.below {B H M : Nat} {W W' : World} (h : Bt3 B H M W W') (hB : B ≤ W.heap.size) : Below B W W' := ⟨h.os, h.tape, h.output, h.size, fun b hb => h.block b (.inl hb) (by omega)⟩
theorem Bt3.trans {B H M : Nat} {a b c : World} (x : Bt3 B H M a b) (y : Bt3 B H M b c) : Bt3 B H M a c :=
  ⟨y.os.trans x.os, y.tape.trans x.tape, y.output.trans x.output, Nat.le_trans x.size y.size, fun k hk hl => (y.block k hk (by have := x.size; omega)).trans (x.block k hk hl), fun k o hk ho hc => y.same k o hk (x.same k o hk ho hc) hc⟩
end Go.Proofs.YtojgiienohpaiaaGreat
namespace Go.Proofs.YtojgiienohpaiaaGreat
open Go.RowKit

theorem run_append_none {P : Program} (w : World) (base : Nat) (t ty e : TypeId) (i : TypeInfo) (size : Nat) (ht : P.underlying t = some (.slice e)) (hi : P.info? e = some i)
    (v : Value) (n : Nat) (xs : List Value) (hown : w.ownsRow base e size v n xs) (c : Nat) : (Builtin.append_ #[t, t] ty #[v, .slice none 0 c]).run P w = .ok v w := by
  rcases hown.2 with ⟨rfl, rfl⟩ | ⟨g, cap, cur, rfl, _, _, hnc, _⟩
  · simp [Builtin.append_, run_underlying ht, sizeOf, typeInfo, hi, Builtin.lenOf, Builtin.firstCells]
  · simp [Builtin.append_, run_underlying ht, sizeOf, typeInfo, hi, Builtin.lenOf, Builtin.firstCells, hnc, storeCells]
theorem run_append_rd {P : Program} (w : World) (base : Nat) (t ty e : TypeId) (i : TypeInfo) (z : Value) (size bytes : Nat) (ht : P.underlying t = some (.slice e)) (hi : P.info? e = some i) (hz : i.zero = some z)
    (hsize : i.size = size) (hby : i.bytes = bytes) (hzs : z.cells.size = size) (hsz : 0 < size)
    (v : Value) (n : Nat) (xs : List Value) (hown : w.ownsRow base e size v n xs)
    (vx : Value) (m : Nat) (news : List Value) (hr : Rd w size vx m news) (h1 : ∀ u ∈ news, u.oneCell' = true)
    (h63 : n + m ≤ maxLen) (hbytes : (n + m) * bytes ≤ 140737488355328) (hbase : base ≤ w.heap.size) :
    ∃ v' w', (Builtin.append_ #[t, t] ty #[v, vx]).run P w = .ok v' w' ∧ w'.ownsRow base e size v' (n + m) (xs ++ news) ∧ w.grownBy w' v.ownBlock ∧
      (v'.ownBlock = v.ownBlock ∨ v'.ownBlock = some w.heap.size) := by
  have nilCase : ∀ c, m = 0 → vx = .slice none 0 c → ∃ v' w', (Builtin.append_ #[t, t] ty #[v, vx]).run P w = .ok v' w' ∧ w'.ownsRow base e size v' (n + m) (xs ++ news) ∧ w.grownBy w' v.ownBlock ∧
      (v'.ownBlock = v.ownBlock ∨ v'.ownBlock = some w.heap.size) := by
    rintro c rfl rfl
    have hn : news = [] := List.eq_nil_of_length_eq_zero (by simpa using hr.1)
    subst hn
    exact ⟨v, w, run_append_none w base t ty e i size ht hi v n xs hown c, by simpa using hown, World.grownBy.refl w _, .inl rfl⟩
  rcases hr.2 with ⟨h0, A, c, rfl⟩ | ⟨b, off, cap, rfl, _, _, _, hc⟩
  · rcases A with _ | ad
    · exact nilCase c h0 rfl
    · subst h0
      have hn : news = [] := List.eq_nil_of_length_eq_zero (by simpa using hr.1)
      subst hn
      obtain ⟨v', w', hrun, h2, h3, _, h5⟩ := run_append_own_at (P := P) w base t ty e i z size bytes ht hi hz hsize hby hzs hsz v n xs hown ad 0 c [] hr.1 (by simp) h1 h63 hbytes hbase
      exact ⟨v', w', hrun, h2, h3, h5⟩
  · obtain ⟨v', w', hrun, h2, h3, _, h5⟩ := run_append_own_at (P := P) w base t ty e i z size bytes ht hi hz hsize hby hzs hsz v n xs hown ⟨b, off, none⟩ m cap news hr.1 (fun j u hu => by rw [Addr.add_lit]; exact hc j u hu) h1 h63 hbytes hbase
    exact ⟨v', w', hrun, h2, h3, h5⟩
theorem Rd.lo {w : World} {size : Nat} {A : Option Addr} {n c : Nat} {xs : List Value} (h : Rd w size (.slice A n c) n xs) (k : Nat) (hk : k ≤ n) : Rd w size (.slice A k c) k (xs.take (k * size)) := by
  refine ⟨by rw [List.length_take, h.1]; exact Nat.min_eq_left (Nat.mul_le_mul_right _ hk), ?_⟩
  rcases h.2 with ⟨h0, A', c', hv⟩ | ⟨b, off, cap, hv, hnc, hcm, hb, hc⟩
  · have : k = 0 := by omega
    exact .inl ⟨this, A, c, by rw [this]⟩
  · injection hv with h1 h2 h3
    subst h1; subst h3
    refine .inr ⟨b, off, c, rfl, by omega, hcm, hb, fun j u hu => ?_⟩
    rw [List.getElem?_take] at hu
    split at hu
    · exact hc j u hu
    · cases hu
theorem Rd.hi {w : World} {size : Nat} {A : Option Addr} {n c : Nat} {xs : List Value} (h : Rd w size (.slice A n c) n xs) (k : Nat) (hk : k ≤ n) : Rd w size (.slice (if c = k then A else A.map (·.add (k * size))) (n - k) (c - k)) (n - k) (xs.drop (k * size)) := by
  refine ⟨by rw [List.length_drop, h.1, Nat.sub_mul], ?_⟩
  rcases Nat.eq_zero_or_pos (n - k) with h0 | h0
  · exact .inl ⟨h0, _, _, by rw [h0]⟩
  · rcases h.2 with ⟨h1, _⟩ | ⟨b, off, cap, hv, hnc, hcm, hb, hc⟩
    · omega
    · injection hv with h1 h2 h3
      subst h1; subst h3
      rw [if_neg (by omega)]
      refine .inr ⟨b, off + k * size, c - k, by rw [Option.map_some, Addr.add_lit], by omega, by omega, hb, fun j u hu => ?_⟩
      rw [List.getElem?_drop] at hu
      rw [Nat.add_assoc]
      exact hc _ u hu
theorem Rd.far {w w' : World} {size : Nat} {b off n cap : Nat} {xs : List Value} {row : Option Nat} (h : Rd w size (.slice (some ⟨b, off, none⟩) n cap) n xs) (hb : b < w.heap.size) (hg : w.grownBy w' row) (hne : some b ≠ row) : Rd w' size (.slice (some ⟨b, off, none⟩) n cap) n xs := by
  refine ⟨h.1, ?_⟩
  rcases h.2 with h2 | ⟨b', off', cap', hv, hnc, hcm, hb', hc⟩
  · exact .inl h2
  · injection hv with h1 h2 h3
    injection h1 with h1
    injection h1 with h1 h4
    subst h1; subst h4; subst h3
    exact .inr ⟨b, off, cap, rfl, hnc, hcm, by have := hg.size; omega, fun j u hu => (World.cell?_of_block (hg.block b hb hne)).trans (hc j u hu)⟩
theorem rd_new (w : World) (L : List Value) (t : TypeId) (size n : Nat) (hL : L.length = n * size) (hn : n ≤ maxLen) : Rd (w.alloc (.cells L.toArray t)) size (.slice (some ⟨w.heap.size, 0, none⟩) n n) n L :=
  ⟨hL, .inr ⟨w.heap.size, 0, n, rfl, Nat.le_refl _, hn, by simp, fun j u hu => by have := cells_new w L t j u hu; rwa [Addr.add_lit] at this⟩⟩
theorem own_none_yet (w : World) (H : Nat) (hH : H ≤ w.heap.size) (e : TypeId) (size : Nat) : (w.alloc (.cells #[] e)).ownsRow H e size (.slice (some ⟨w.heap.size, 0, none⟩) 0 0) 0 [] :=
  ⟨by simp, .inr ⟨w.heap.size, 0, #[], rfl, hH, heap_alloc_new w _, Nat.le_refl _, Nat.zero_le _, by simp, by simp⟩⟩
end Go.Proofs.YtojgiienohpaiaaGreat
namespace Go.Proofs.YtojgiienohpaiaaGreat
open Go.RowKit

theorem ret_int {k : IntKind} {a b : Int} (h : a = b) : Ending.returned (.int k a) = .returned (.int k b) := by rw [h]
theorem ret_bool {a b : Bool} (h : a = b) : Ending.returned (.bool a) = .returned (.bool b) := by rw [h]
set_option maxHeartbeats 1000000 in
set_option maxRecDepth 100000 in
theorem rsize_any (m : Nat) : ∀ (f : Fo) (k n : Int) (v : Value) (w : World), f.size < m → f.size ≤ 1000000 → TyV w.heap.size w f v →
    Calls Tryz.prog 19 #[tyVal k n v] w fun e w' => e = .returned (.int .i64 (1 + f.size)) ∧ Below w.heap.size w w' := by
  induction m with
  | zero => intro f k n v w h; omega
  | succ m ih =>
    intro f k n v w hm hs h
    obtain ⟨A, c, rfl⟩ := h.slice
    have H := Lib.hid h
    have IH := Lib.hid ih
    have hll := f.len_le_size
    clear h ih
    unfold tyVal
    go_enter Tryz.func19, Tryz.ntmps19
    go_wp2_with fail
    go_loopw [3, 4] (fun t3 t4 wr => ∃ j : Nat, j ≤ f.len ∧ t4 = .int .i64 j ∧ t3 = .int .i64 (1 + (f.take j).size) ∧ Below (w.heap.size + 1) (w.alloc (.cells #[.int .i64 k, .int .i64 n, .slice A f.len c] 47)) wr) (fun _ t _ => f.len - (intOf t).toNat)
    case atStart => exact ⟨0, Nat.zero_le _, rfl, by simp [Fo.take_zero, Fo.size], Below.refl _ _⟩
    case round =>
      obtain ⟨j, hj, rfl, rfl, hb⟩ := hrel
      have e2 : wr.cell? ⟨w.heap.size, 2, none⟩ = some (.slice A f.len c) := (hb.cell (p := ⟨w.heap.size, 2, none⟩) (by simp)).trans (by go_simp)
      have HB : Hid (Below w.heap.size w wr) := Lib.hid (((Below.refl _ _).alloc (Nat.le_refl _) _).trans (hb.mono (by omega)))
      have hz := hb.size
      simp only [World.size_alloc] at hz
      have hts := f.size_take_le j
      by_cases hjl : j < f.len
      · obtain ⟨b, off, cap, hv, _, _, hlt, hC⟩ := H.out.form (by omega)
        injection hv with hA _ hcc
        subst hA; subst hcc
        obtain ⟨d0, d1, d2, hch⟩ := tyC_at hC j hjl
        have c0 := (HB.out.cell (p := ⟨b, off + j * 3, none⟩) hlt).trans d0
        have c1 := (HB.out.cell (p := ⟨b, off + j * 3 + 1, none⟩) hlt).trans d1
        have c2 := (HB.out.cell (p := ⟨b, off + j * 3 + 2, none⟩) hlt).trans d2
        have hch' : TyV wr.heap.size wr (f.at_ j).2.2.2 (slv (f.at_ j).2.2.1) := (hch.keep HB.out.size fun b off hb' => HB.out.cell (p := ⟨b, off, none⟩) hb')
        have hsz := f.at_size j hjl
        have hst := f.size_take_step j hjl
        have hle := f.size_take_le (j + 1)
        clear d0 d1 d2 hC hch
        have hrec := IH.out (f.at_ j).2.2.2 (f.at_ j).1 (f.at_ j).2.1 (slv (f.at_ j).2.2.1) wr (by omega) (by omega) hch'
        unfold tyVal at hrec
        generalize f.at_ j = p at *
        obtain ⟨pk, pn, pv, pf⟩ := p
        have HREC := Lib.hid hrec
        have HST := Lib.hid hst
        have hb1 : 0 ≤ (pf.size : Int) ∧ (pf.size : Int) ≤ 1000000 := by simp only at hsz; omega
        have hb2 : ((f.take j).size : Int) ≤ 1000000 := by omega
        clear hrec hst hch'
        go_wp2_with fail
        refine HREC.out.mono ?_
        rintro e w2 ⟨rfl, hb3⟩
        go_wp2_with fail
        go_roundw
        case rel => exact ⟨j + 1, by omega, by go_num, by rw [HST.out]; congr 1; omega, hb.trans (hb3.mono hz)⟩
        case measure => simp [intOf]; omega
      · obtain rfl : j = f.len := by omega
        have HT : Hid (f.take f.len = f) := Lib.hid f.take_len
        go_wp2_with fail
        go_ret
        exact ⟨ret_int (by rw [HT.out]), HB.out⟩
end Go.Proofs.YtojgiienohpaiaaGreat
namespace Go.Proofs.YtojgiienohpaiaaGreat
open Go.RowKit Go.Shelf
attribute [local go_sem] Oper.semAt_some

abbrev Tr := Int × Int × Sl
def trC (x : Tr) : List Value := [.int .i64 x.1, .int .i64 x.2.1, slv x.2.2]
def trV (x : Tr) : Value := .agg #[.int .i64 x.1, .int .i64 x.2.1, slv x.2.2]
def RdX (B : Nat) (w : World) (v : Value) (L : List Tr) : Prop :=
  ∃ A c, v = .slice A L.length c ∧ (0 < L.length → ∃ b off, A = some ⟨b, off, none⟩ ∧ b < B ∧ ∀ i (h : i < L.length), w.cell? ⟨b, off + i * 3, none⟩ = some (.int .i64 L[i].1) ∧ w.cell? ⟨b, off + i * 3 + 1, none⟩ = some (.int .i64 L[i].2.1) ∧ w.cell? ⟨b, off + i * 3 + 2, none⟩ = some (slv L[i].2.2))
theorem RdX.below {B : Nat} {w w' : World} {v : Value} {L : List Tr} (h : RdX B w v L) (hb : Below B w w') : RdX B w' v L := by
  obtain ⟨A, c, hv, h⟩ := h
  refine ⟨A, c, hv, fun hn => ?_⟩
  obtain ⟨b, off, hA, hlt, hc⟩ := h hn
  exact ⟨b, off, hA, hlt, fun i hi => ⟨(hb.cell (p := ⟨_, _, none⟩) hlt).trans (hc i hi).1, (hb.cell (p := ⟨_, _, none⟩) hlt).trans (hc i hi).2.1, (hb.cell (p := ⟨_, _, none⟩) hlt).trans (hc i hi).2.2⟩⟩
structure KpB (B Bs : Nat) (W W' : World) : Prop where
  below : Below B W W'
  kept : ∀ o, W.heap[Bs]? = some o → o.isCells = true → W'.heap[Bs]? = some o
theorem KpB.t {B Bs : Nat} {X Y Z : World} (h : KpB B Bs X Y) (k : KpB B Bs Y Z) : KpB B Bs X Z := ⟨h.below.trans k.below, fun o ho hc => k.kept o (h.kept o ho hc) hc⟩
theorem KpB.b {B Bs : Nat} {w : World} (hn : B ≤ w.heap.size) (W : World) (l : Nat) (o o' : Obj) (hl : w.heap.size ≤ l) (h : W.heap[l]? = some o) (h1 : o.isCells = false) (h2 : o.isWalk = false) : KpB B Bs W (W.putObj l o') := by
  refine ⟨belowK_b hn W l o o' hl h h1 h2, fun o2 ho hc => ?_⟩
  have hne : Bs ≠ l := by
    rintro rfl
    rw [h] at ho
    injection ho with ho
    subst ho
    rw [h1] at hc; cases hc
  exact ((grownBy_putObj' W l o').block Bs (Array.getElem?_eq_some_iff.1 ho).1 (fun e => hne (by cases e; rfl))).trans ho
theorem KpB.boxed {B Bs : Nat} {W W' : World} {t : TypeId} {v : Value} (h : KpB B Bs W W') (hb : Boxed W Bs t v) : Boxed W' Bs t v := h.kept _ hb rfl
set_option maxRecDepth 100000 in
set_option maxHeartbeats 2000000 in
theorem back1 (n : Nat) (hn : 1 ≤ n) (l Bs B : Nat) (A : Option Addr) (c : Nat) (L : List Tr) (hL : L.length ≤ 1000000) (J Jx : List (Int × Tr) → World → Prop)
    (hY : ∀ pre x W, J pre W → pre.length < L.length → YieldAt Fence.wide (n - 1) Tryz.prog l #[.int .i64 x.1, trV x.2] W fun e W' =>
      (e = .returned (.bool true) ∧ J (pre ++ [x]) W' ∧ KpB B Bs W W') ∨ (e = .returned (.bool false) ∧ Jx (pre ++ [x]) W'))
    (W : World) (hBs : Boxed W Bs 45 (.slice A L.length c)) (hR : RdX B W (.slice A L.length c) L) (h0 : J [] W) :
    CallsIn Fence.wide n Tryz.prog 76 #[.func (.yield l) #[] #[], .pointer (some ⟨Bs, 0, none⟩)] W fun e W' => (∃ v, e = .returned v) ∧
      ((∃ ys : List (Int × Tr), ys.map (·.2) = L.reverse ∧ J ys W') ∨ (∃ pre, Jx pre W')) := by
  refine callsIn_of_wp Tryz.func76 rfl trivial ?_ rfl
  simp only [Tryz.ntmps76, List.size_toArray, List.length_cons, List.length_nil, Nat.reduceAdd, Nat.reduceSub, Array.replicate_succ, Array.replicate_zero, List.push_toArray, List.append_toArray, List.nil_append, List.cons_append]
  have e00 : W.cell? ⟨Bs, 0, none⟩ = some (.slice A L.length c) := hBs.cell
  have HBS := Lib.hid hBs
  clear hBs
  gi_wp2
  gi_loopw [3] (fun i wr => ∃ (k : Nat) (z : Int) (pre : List (Int × Tr)), k ≤ L.length ∧ i = .int .i64 z ∧ z + 1 = k ∧ pre.map (·.2) = (L.drop k).reverse ∧ J pre wr ∧ Below B W wr ∧ Boxed wr Bs 45 (.slice A L.length c))
    (fun i _ => (intOf i + 1).toNat)
  case atStart => exact ⟨L.length, _, [], Nat.le_refl _, rfl, by omega, by simp, h0, Below.refl _ _, HBS.out⟩
  case round =>
    obtain ⟨k, z, pre, hk, rfl, hz, hpre, hJs, hnx, hbx⟩ := hrel
    have e0 : wr.cell? ⟨Bs, 0, none⟩ = some (.slice A L.length c) := hbx.cell
    have HBX := Lib.hid hbx
    clear hbx
    by_cases hk0 : 1 ≤ k
    · obtain ⟨A', c', hv, hf⟩ := hR.below hnx
      injection hv with hv1 _ hv3
      subst hv1; subst hv3
      obtain ⟨b, off, rfl, hlt, hc⟩ := hf (by omega)
      obtain ⟨c0, c1, c2⟩ := hc (k - 1) (by omega)
      have hdrop : L.drop (k - 1) = L[k - 1] :: L.drop k := by
        have := List.drop_eq_getElem_cons (l := L) (i := k - 1) (by omega)
        rwa [show k - 1 + 1 = k by omega] at this
      have hpl : pre.length < L.length := by
        have : (pre.map (·.2)).length = pre.length := by simp
        rw [hpre] at this
        simp at this
        omega
      obtain ⟨x, hx⟩ : ∃ x, L[k - 1] = x := ⟨_, rfl⟩
      rw [hx] at c0 c1 c2 hdrop
      obtain ⟨x1, x2, x3⟩ := x
      dsimp only [slv] at c2
      obtain ⟨fn, tmps, assign, body, hy, hR2⟩ := hY pre (z, x1, x2, x3) wr hJs hpl
      dsimp only [trV, slv] at hy
      have f1 : (0 : Int) ≤ z := by omega
      have f2 : z < (L.length : Int) := by omega
      have f3 : z.toNat = k - 1 := by omega
      have f4 : decide ((0 : Int) ≤ z) = true := decide_eq_true f1
      have HZ := Lib.hid hz
      have HP := Lib.hid hpre
      have HD := Lib.hid hdrop
      clear hz hpre hdrop hx hc hf hpl
      gi_wp2
      refine hR2.mono ?_
      rintro e W3 (⟨rfl, hJ3, hk3⟩ | ⟨rfl, hJx3⟩)
      · gi_wp2
        go_roundw
        case rel => exact ⟨k - 1, z - 1, pre ++ [(z, x1, x2, x3)], by omega, by go_num, by have := HZ.out; omega, by simp [HP.out, HD.out], hJ3, hnx.trans hk3.below, hk3.boxed HBX.out⟩
        case measure => simp [intOf]; omega
      · gi_wp2
        refine bodyPost_ret (results_none rfl _ _ _) rfl ?_
        exact ⟨⟨_, rfl⟩, .inr ⟨_, hJx3⟩⟩
    · obtain rfl : k = 0 := by omega
      have f1 : ¬ (0 : Int) ≤ z := by omega
      have f4 : decide ((0 : Int) ≤ z) = false := decide_eq_false f1
      have HP := Lib.hid hpre
      clear hz hpre
      gi_wp2
      go_end0
      exact ⟨⟨_, rfl⟩, .inl ⟨pre, by simpa using HP.out, hJs⟩⟩
set_option maxHeartbeats 1000000 in
theorem back_make (A : Option Addr) (n c : Nat) (w : World) :
    Calls Tryz.prog 53 #[.slice A n c] w fun e w' => e = .returned (.func (.func 76) #[] #[.pointer (some ⟨w.heap.size, 0, none⟩)]) ∧ w' = w.alloc (.cells #[.slice A n c] 45) := by
  go_enter Tryz.func53, Tryz.ntmps53
  go_wp2
  go_ret
  exact ⟨rfl, rfl⟩
theorem back_stops (n : Nat) (hn : 1 ≤ n) (Bs B : Nat) (A : Option Addr) (c : Nat) (L : List Tr) (hL : L.length ≤ 1000000) (w : World) (hBw : B ≤ w.heap.size) (hBs : Boxed w Bs 45 (.slice A L.length c)) (hR : RdX B w (.slice A L.length c) L) :
    SeqStopsK Fence.wide n Tryz.prog 76 #[.pointer (some ⟨Bs, 0, none⟩)] (fun x : Int × Tr => #[Value.int .i64 x.1, trV x.2]) (KpB B Bs) (fun ys => ys.map (·.2) = L.reverse) (fun _ => True) L.length w := fun l J Jx W hW _ _ hY h0 => by
  have hbs : Boxed W Bs 45 (.slice A L.length c) := (hW.block Bs hBs.lt).trans hBs
  refine (back1 n hn l Bs B A c L hL J Jx hY W hbs (hR.below (hW.mono hBw)) h0).mono ?_
  rintro e W' ⟨he, ⟨ys, hy, hj⟩ | ⟨pre, hj⟩⟩
  · exact ⟨he, .inl ⟨ys, hy, hj⟩⟩
  · exact ⟨he, .inr ⟨pre, trivial, hj⟩⟩
end Go.Proofs.YtojgiienohpaiaaGreat
