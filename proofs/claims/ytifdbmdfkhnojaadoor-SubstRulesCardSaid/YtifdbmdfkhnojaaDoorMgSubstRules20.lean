/- Texts of one proof, one behind the other. -/
import Derived.Test.YtifdbmdfkhnojaaDoorMgSubstRules19
import Derived.Test.YtifdbmdfkhnojaaDoorMgSubstRules15
import Derived.Deep.RegionWith
/- What a bind is asked: has, of; the document's Find and Counts. -/
namespace Go.Proofs.YtifdbmdfkhnojaaDoor
open Go.RowKit Go.Shelf Go.Maps Go.WideShapes
attribute [local go_sem] Oper.semAt_some
/-- A map's value, as a function: nothing stands in the one that isn't there. -/
def MapV (f : Int → Option Value) (w : World) (m : Value) : Prop :=
  (m = .map none ∧ ∀ n, f n = none) ∨ ∃ b S L, m = .map (some b) ∧ MapF f S L b w
theorem MapV.below {f : Int → Option Value} {w w' : World} {m : Value} (h : MapV f w m) (hb : Below w.heap.size w w') : MapV f w' m := by
  rcases h with h | ⟨b, S, L, h1, h2⟩
  · exact .inl h
  · exact .inr ⟨b, S, L, h1, h2.below hb⟩
theorem MapV.at {f : Int → Option Value} {w w' : World} {m : Value} (h : MapV f w m) {B : Nat} (hB : w.heap.size ≤ B) (hb : Below B w w') : MapV f w' m := h.below (hb.mono hB)
theorem MapV.look_ok {f : Int → Option Value} {W : World} {m : Value} (h : MapV f W m) {mt e : TypeId} {z : Value} (M : MapTy mt e z) (n : Int) (hn : (Lit.int .i64 n).wf = true) : (Instr.lookup mt m (.int .i64 n) true).run Tryd.prog W = .ok (.tuple #[(f n).getD z, .bool (f n).isSome]) W := by
  rcases h with ⟨rfl, h⟩ | ⟨b, S, L, rfl, h2⟩
  · rw [h n]; exact nil_look M W n hn true
  · exact h2.look_ok M n hn
theorem MapV.look {f : Int → Option Value} {W : World} {m : Value} (h : MapV f W m) {mt e : TypeId} {z : Value} (M : MapTy mt e z) (n : Int) (hn : (Lit.int .i64 n).wf = true) : (Instr.lookup mt m (.int .i64 n) false).run Tryd.prog W = .ok ((f n).getD z) W := by
  rcases h with ⟨rfl, h⟩ | ⟨b, S, L, rfl, h2⟩
  · rw [h n]; exact nil_look M W n hn false
  · exact h2.look M n hn
/-- What a map of binds gives. -/
theorem mv_shape (l : List Bnd) (n : Int) : ∃ (k i : Int) (A : Option Addr) (c d : Nat), (mv l n).getD (tyVal 0 0 (.slice none 0 0)) = tyVal k i (.slice A c d) := by
  unfold mv
  cases fnd l n with
  | none => exact ⟨0, 0, none, 0, 0, rfl⟩
  | some b => exact ⟨_, _, _, _, _, rfl⟩
set_option maxHeartbeats 1000000 in
theorem has_bind (w : World) (l : List Bnd) (m : Value) (hm : MapV (mv l) w m) (k n : Int) (u : Sl) (hn : (Lit.int .i64 n).wf = true) :
    Calls Tryd.prog 45 #[m, tyVal k n (slv u)] w fun e w' => e = .returned (.bool (k == 1 && (fnd l n).isSome)) ∧ Below w.heap.size w w' := by
  obtain ⟨u1, u2, u3⟩ := u
  have hlk := (hm.below ((Below.refl _ w).alloc (Nat.le_refl _) (.cells #[.int .i64 k, .int .i64 n, .slice u1 u2 u3] 25))).look_ok bindsTy n hn
  obtain ⟨k2, i2, A2, c2, d2, hsh⟩ := mv_shape l n
  have his : (mv l n).isSome = (fnd l n).isSome := by simp [mv]
  rw [hsh, his] at hlk
  have hB : ∀ v, Below w.heap.size w (((w.alloc (.cells #[.int .i64 k, .int .i64 n, .slice u1 u2 u3] 25))).alloc v) := fun v => ((Below.refl _ w).alloc (Nat.le_refl _) _).alloc (by simp) _
  clear hsh his hm
  dsimp only [tyVal, slv] at hlk ⊢
  go_enter Tryd.func45, Tryd.ntmps45
  cases hs : (fnd l n).isSome
  · rw [hs] at hlk
    go_wp2
    go_ret
    exact ⟨by simp, hB _⟩
  · rw [hs] at hlk
    go_wp2
    go_ret
    exact ⟨by simp, hB _⟩
/-- Where a variable's first bind stands. -/
def idx : List Bnd → Int → Int
  | [], _ => -1
  | b :: l, v => if b.1 = v then 0 else if idx l v < 0 then -1 else idx l v + 1
theorem idx_lo (l : List Bnd) (v : Int) : -1 ≤ idx l v := by
  induction l with
  | nil => simp [idx]
  | cons b l ih =>
    simp only [idx]
    split
    · omega
    · split <;> omega
theorem idx_none {l : List Bnd} {v : Int} : idx l v < 0 ↔ fnd l v = none := by
  induction l with
  | nil => simp [idx, fnd]
  | cons b l ih =>
    simp only [idx, fnd]
    split
    · simp
    · rw [← ih]; split <;> omega
theorem idx_some {l : List Bnd} {v : Int} {j : Nat} (h : idx l v = j) : ∃ hj : j < l.length, fnd l v = some l[j] ∧ ∀ i (hi : i < j), l[i].1 ≠ v := by
  induction l generalizing j with
  | nil => simp [idx] at h
  | cons b l ih =>
    simp only [idx] at h
    split at h
    · obtain rfl : j = 0 := by omega
      rename_i hb
      exact ⟨by simp, by simp [fnd, hb], fun i hi => by omega⟩
    · rename_i hb
      split at h
      · omega
      · cases j with
        | zero => omega
        | succ j =>
          obtain ⟨hj, h1, h2⟩ := ih (j := j) (by omega)
          refine ⟨by simpa using hj, by simp [fnd, hb, h1], fun i hi => ?_⟩
          cases i with
          | zero => simpa using hb
          | succ i => simpa using h2 i (by omega)
/-- So far none. -/
theorem idx_drop {l : List Bnd} {v : Int} {j : Nat} (h : ∀ i (hi : i < l.length), i < j → l[i].1 ≠ v) (hj : j < l.length) (he : l[j].1 = v) : idx l v = j := by
  induction l generalizing j with
  | nil => simp at hj
  | cons b l ih =>
    cases j with
    | zero => simp at he; simp [idx, he]
    | succ j =>
      have hb : b.1 ≠ v := h 0 (by simp) (by omega)
      have := ih (j := j) (fun i hi hij => by have := h (i + 1) (by simpa using hi) (by omega); rwa [List.getElem_cons_succ] at this) (by simpa using hj) (by simpa using he)
      simp only [idx, hb, if_false, this]
      split <;> omega
theorem idx_all {l : List Bnd} {v : Int} (h : ∀ i (hi : i < l.length), l[i].1 ≠ v) : idx l v = -1 := by
  have h1 := idx_lo l v
  have h2 : idx l v < 0 := idx_none.2 (fnd_none.2 fun b hb => by
    obtain ⟨i, hi, rfl⟩ := List.mem_iff_getElem.1 hb
    exact h i hi)
  omega
set_option maxHeartbeats 1000000 in
theorem rfind_any (w : World) (l : List Bnd) (v : Value) (hl : BdV w.heap.size w l v) (hs : l.length ≤ 1000000) (x : Int) :
    Calls Tryd.prog 34 #[v, .int .i64 x] w fun e w' => e = .returned (.int .i64 (idx l x)) ∧ Below w.heap.size w w' := by
  obtain ⟨A, c, rfl⟩ := hl.form
  go_enter Tryd.func34, Tryd.ntmps34
  go_wp2
  go_loopw [5] (fun i wr => ∃ j : Nat, i = .int .i64 j ∧ j ≤ l.length ∧ (∀ i (hi : i < l.length), i < j → l[i].1 ≠ x) ∧ Below w.heap.size w wr) (fun i _ => l.length - (intOf i).toNat)
  case atStart => exact ⟨0, rfl, Nat.zero_le _, fun i hi h => by omega, Below.refl _ _⟩
  case round =>
    obtain ⟨j, rfl, hj, hne, hb⟩ := hrel
    by_cases hjl : j < l.length
    · obtain ⟨b, off, rfl, hlt, c0, _⟩ := (hl.below hb).at j hjl
      by_cases he : l[j].1 = x
      · have hx := idx_drop hne hjl he
        have f1 : (l[j].1 == x) = true := by simp [he]
        go_wp2
        go_ret
        exact ⟨by rw [hx]; rfl, hb⟩
      · have f1 : (l[j].1 == x) = false := by simp [he]
        go_wp2
        go_roundw
        case rel => exact ⟨j + 1, by go_num, by omega, fun i hi hij => if e : i = j then (by subst e; exact he) else hne i hi (by omega), hb⟩
        case measure => simp [intOf]; omega
    · obtain rfl : j = l.length := by omega
      have hx := idx_all fun i hi => hne i hi hi
      go_wp2
      go_ret
      exact ⟨by rw [hx]; rfl, hb⟩
theorem rcounts_any (w : World) (l : List Bnd) (v : Value) (hl : BdV w.heap.size w l v) (hs : l.length ≤ 1000000) (j : Nat) (hj : j < l.length) :
    Calls Tryd.prog 38 #[v, .int .i64 j] w fun e w' => e = .returned (.bool (idx l l[j].1 == (j : Int))) ∧ Below w.heap.size w w' := by
  obtain ⟨A, c, rfl⟩ := hl.form
  obtain ⟨b, off, rfl, hlt, c0, _⟩ := hl.at j hj
  have hf := rfind_any w l _ hl hs l[j].1
  go_enter Tryd.func38, Tryd.ntmps38
  go_wp2_with fail
  refine hf.mono ?_
  rintro e w' ⟨rfl, hb⟩
  go_wp2
  go_ret
  exact ⟨rfl, hb⟩
end Go.Proofs.YtifdbmdfkhnojaaDoor
