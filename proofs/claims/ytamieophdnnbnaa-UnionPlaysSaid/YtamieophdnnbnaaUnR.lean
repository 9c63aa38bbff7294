/- What can be reached: rounds over the joins come to an end (plain); one forest, and a row of bools beside it. -/
import Derived.Test.YtamieophdnnbnaaUnU
namespace Go.Proofs.Ytamieophdnnbnaa.Un
open Go.RowKit

def updB (f : Nat → Bool) (i : Nat) (v : Bool) : Nat → Bool := fun k => if k = i then v else f k
def rowB (n : Nat) (f : Nat → Bool) : List Value := (List.range n).map fun k => Value.bool (f k)
theorem rowB_len (n : Nat) (f : Nat → Bool) : (rowB n f).length = n := by simp [rowB]
theorem rowB_get {n : Nat} {f : Nat → Bool} {k : Nat} (h : k < n) : (rowB n f)[k]? = some (.bool (f k)) := by simp [rowB, h]
theorem rowB_set {n : Nat} {f : Nat → Bool} {i : Nat} (v : Bool) : (rowB n f).set i (.bool v) = rowB n (updB f i v) := by
  apply List.ext_getElem?
  intro k
  rw [List.getElem?_set, rowB_len]
  by_cases hk : k < n
  · rw [rowB_get hk, rowB_get hk]
    by_cases e : i = k
    · subst e; rw [if_pos rfl, if_pos hk]; simp [updB]
    · rw [if_neg e]; simp [updB, Ne.symm e]
  · rw [List.getElem?_eq_none (by rw [rowB_len]; omega), List.getElem?_eq_none (by rw [rowB_len]; omega)]
    split
    · rw [if_neg (by omega)]
    · rfl
theorem rowB_none (n : Nat) : rowB n (fun _ => false) = List.replicate n (.bool false) := by
  apply List.ext_getElem?
  intro k
  by_cases hk : k < n
  · rw [rowB_get hk, List.getElem?_replicate, if_pos hk]
  · rw [List.getElem?_eq_none (by rw [rowB_len]; omega), List.getElem?_replicate, if_neg hk]
/-- How many are reached. -/
def cB (n : Nat) (R : Nat → Bool) : Nat := (List.range n).countP R
theorem cB_le (n : Nat) (R : Nat → Bool) : cB n R ≤ n := by
  have := List.countP_le_length (p := R) (l := List.range n)
  simpa [cB] using this
theorem cB_mono {n : Nat} {R T : Nat → Bool} (h : ∀ k, k < n → R k = true → T k = true) : cB n R ≤ cB n T :=
  List.countP_mono_left fun k hk hr => h k (List.mem_range.1 hk) hr
theorem cB_more {n : Nat} {R T : Nat → Bool} {a : Nat} (ha : a < n) (h : ∀ k, k < n → R k = true → T k = true) (h1 : R a = false) (h2 : T a = true) : cB n R + 1 ≤ cB n T := by
  have h3 : (List.range n).countP (fun k => R k || k == a) = (List.range n).countP R + (List.range n).countP (fun k => k == a) := by
    apply countP_two
    intro k _
    refine ⟨rfl, fun ⟨h4, h5⟩ => ?_⟩
    rw [beq_iff_eq] at h5
    rw [h5, h1] at h4
    cases h4
  have h4 : (List.range n).countP (fun k => R k || k == a) ≤ cB n T := by
    apply List.countP_mono_left
    intro k hk hr
    rw [Bool.or_eq_true, beq_iff_eq] at hr
    rcases hr with hr | rfl
    · exact h k (List.mem_range.1 hk) hr
    · exact h2
  rw [countP_one ha] at h3
  unfold cB at h4 ⊢
  omega
theorem cB_pos {n : Nat} {R : Nat → Bool} {i : Nat} (hi : i < n) (h : R i = true) : 1 ≤ cB n R := by
  have := cB_more (n := n) (R := fun _ => false) (T := R) hi (fun k _ h => by cases h) rfl h
  omega
/-- A join of the list, gone through. -/
def stp (R : Nat → Bool) (a b : Nat) : Nat → Bool := if R a || R b then updB (updB R a true) b true else R
theorem stp_mono (R : Nat → Bool) (a b k : Nat) (h : R k = true) : stp R a b k = true := by
  unfold stp
  split
  · unfold updB; split
    · rfl
    · split
      · rfl
      · exact h
  · exact h
theorem stp_same {R : Nat → Bool} {a b : Nat} (h : R a = R b) : stp R a b = R := by
  unfold stp
  split
  · rename_i e
    rw [← h, Bool.or_self] at e
    funext k
    unfold updB
    split
    · rename_i e2; rw [e2, ← h, e]
    · split
      · rename_i e2; rw [e2, e]
      · rfl
  · rfl
theorem stp_ne {R : Nat → Bool} {a b : Nat} (h : R a ≠ R b) : stp R a b a = true ∧ stp R a b b = true := by
  have e : (R a || R b) = true := by
    cases ha : R a <;> cases hb : R b <;> simp [ha, hb] at h ⊢
  unfold stp
  rw [if_pos e]
  unfold updB
  constructor
  · split
    · rfl
    · rw [if_pos rfl]
  · rw [if_pos rfl]
theorem stp_sound {R : Nat → Bool} {a b : Nat} {col : Nat → Nat} {c : Nat} (he : col a = col b) (h : ∀ k, R k = true → col k = c) : ∀ k, stp R a b k = true → col k = c := by
  intro k hk
  by_cases e : R a = R b
  · rw [stp_same e] at hk; exact h k hk
  · unfold stp at hk
    split at hk
    · rename_i ho
      have hab : col a = c ∧ col b = c := by
        rw [Bool.or_eq_true] at ho
        rcases ho with ho | ho
        · exact ⟨h a ho, he ▸ h a ho⟩
        · exact ⟨he.trans (h b ho), h b ho⟩
      unfold updB at hk
      split at hk
      · rename_i e2; rw [e2]; exact hab.2
      · split at hk
        · rename_i e2; rw [e2]; exact hab.1
        · exact h k hk
    · exact h k hk
/-- Nothing is left to reach. -/
def Shut (E : List (Nat × Nat)) (R : Nat → Bool) : Prop := ∀ e ∈ E, R e.1 = R e.2
/-- Within a round: nothing has come yet, or something has. -/
def Mid (m : Nat) (E : List (Nat × Nat)) (k : Nat) (R0 R : Nat → Bool) : Prop :=
  (R = R0 ∧ Shut (E.take k) R0) ∨ (cB m R0 + 1 ≤ cB m R ∧ ¬ Shut E R0)
theorem Mid.step {m : Nat} {E : List (Nat × Nat)} {k : Nat} {R0 R : Nat → Bool} (h : Mid m E k R0 R) (hk : k < E.length) (ha : E[k].1 < m) (hb : E[k].2 < m) : Mid m E (k + 1) R0 (stp R E[k].1 E[k].2) := by
  rcases h with ⟨rfl, h⟩ | ⟨h1, h2⟩
  · by_cases e : R E[k].1 = R E[k].2
    · rw [stp_same e]
      refine .inl ⟨rfl, fun x hx => ?_⟩
      rw [List.take_succ_eq_append_getElem hk] at hx
      rcases List.mem_append.1 hx with hx | hx
      · exact h x hx
      · obtain rfl := List.mem_singleton.1 hx; exact e
    · refine .inr ⟨?_, fun hs => e (hs _ (List.getElem_mem hk))⟩
      have hn := stp_ne e
      cases h1 : R E[k].1 with
      | false => exact cB_more ha (fun j _ => stp_mono R _ _ j) h1 hn.1
      | true =>
        cases h2 : R E[k].2 with
        | false => exact cB_more hb (fun j _ => stp_mono R _ _ j) h2 hn.2
        | true => rw [h1, h2] at e; exact absurd rfl e
  · exact .inr ⟨Nat.le_trans h1 (cB_mono fun j _ => stp_mono R _ _ j), h2⟩
/-- Behind r rounds. -/
def Rnd (m : Nat) (E : List (Nat × Nat)) (r : Nat) (R : Nat → Bool) : Prop := Shut E R ∨ r + 1 ≤ cB m R
theorem Mid.done {m : Nat} {E : List (Nat × Nat)} {r : Nat} {R0 R : Nat → Bool} (h : Mid m E E.length R0 R) (h0 : Rnd m E r R0) : Rnd m E (r + 1) R := by
  rcases h with ⟨rfl, h⟩ | ⟨h1, h2⟩
  · rw [List.take_length] at h; exact .inl h
  · rcases h0 with h0 | h0
    · exact absurd h0 h2
    · exact .inr (by omega)
theorem Rnd.shut {m : Nat} {E : List (Nat × Nat)} {R : Nat → Bool} (h : Rnd m E m R) : Shut E R := by
  rcases h with h | h
  · exact h
  · have := cB_le m R; omega
theorem reached {m : Nat} {E : List (Nat × Nat)} {col : Nat → Nat} (hJ : Joined m E col) {R : Nat → Bool} {i : Nat} (hi : i < m) (hR : R i = true) (hs : Shut E R) (hso : ∀ k, R k = true → col k = col i) : ∀ k, k < m → (col i == col k) = R k := by
  intro k hk
  rw [Bool.eq_iff_iff, beq_iff_eq]
  constructor
  · intro e
    exact (hJ.only (fun z => R z = true) (fun x hx => by show R x.1 = true ↔ R x.2 = true; rw [hs x hx]) i k hi hk e).1 hR
  · intro h
    exact (hso k h).symm
/-- One forest. -/
def One (w : World) (u m : Nat) (c : Nat → Nat) (N : Int) (wr : World) : Prop :=
  ∃ (ro : Nat → Nat) (st : Int), UFo (fun k => w.heap.size ≤ k ∧ k < u) wr w.heap.size m c ro st ∧ (0 ≤ st ∧ st ≤ N) ∧ Below w.heap.size w wr ∧ u ≤ wr.heap.size
section
variable {w wr : World} {u m : Nat} {c : Nat → Nat} {N : Int}
theorem One.start {w1 : World} (h1 : UFo (fun k => w.heap.size ≤ k ∧ k < w1.heap.size) w1 w.heap.size m (fun j => j) (fun j => j) 0) (b1 : Below w.heap.size w w1) : One w w1.heap.size m (fun j => j) 0 w1 :=
  ⟨fun j => j, 0, h1, by omega, b1, Nat.le_refl _⟩
theorem One.keep {w' : World} {T : Nat → Prop} (h : One w u m c N wr) (he : Else T wr w') (hT : ∀ k, T k → u ≤ k) (hu : w.heap.size ≤ u) : One w u m c N w' := by
  obtain ⟨ro, st, h1, h2, h3, h4⟩ := h
  exact ⟨ro, st, h1.keep he (fun k hk hk2 => by have := hT k hk2; omega), h2, h3.trans (he.below (fun k hk => by have := hT k hk; omega) h3.size), Nat.le_trans h4 he.size⟩
theorem One.below {w' : World} (h : One w u m c N wr) (hb : Below wr.heap.size wr w') : One w u m c N w' := by
  obtain ⟨ro, st, h1, h2, h3, h4⟩ := h
  exact ⟨ro, st, h1.below hb, h2, h3.trans (hb.mono h3.size), Nat.le_trans h4 hb.size⟩
theorem One.more {M : Int} (h : One w u m c N wr) (hM : N ≤ M) : One w u m c M wr := by
  obtain ⟨ro, st, h1, h2, h3, h4⟩ := h
  exact ⟨ro, st, h1, by omega, h3, h4⟩
theorem One.bel (h : One w u m c N wr) : Below w.heap.size w wr := by
  obtain ⟨ro, st, h1, h2, h3, h4⟩ := h; exact h3
theorem One.ule (h : One w u m c N wr) : u ≤ wr.heap.size := by
  obtain ⟨ro, st, h1, h2, h3, h4⟩ := h; exact h4
theorem One.join (h : One w u m c N wr) (hN : N ≤ 1000000000) (x y : Nat) (hx : x < m) (hy : y < m) :
    Calls Try.prog 12 #[.pointer (some ⟨w.heap.size, 0, none⟩), .int .i64 (x : Nat), .int .i64 (y : Nat)] wr fun e w' => ∃ r t, e = .returned (.tuple #[.int .i64 r, .bool t]) ∧ One w u m (paint c x y) (N + 42) w' ∧ Else (fun k => w.heap.size ≤ k ∧ k < u) wr w' := by
  obtain ⟨ro, st, h1, h3, h5, h6⟩ := h
  have hd := dg_le h1.few
  refine (join_in h1 (by omega) x y hx hy).mono ?_
  rintro e w' ⟨r, k, ro', rfl, _, _, hk, hU, hE⟩
  exact ⟨_, _, rfl, ⟨ro', _, hU, by omega, h5.trans (hE.below (fun k hk => hk.1) h5.size), Nat.le_trans h6 hE.size⟩, hE⟩
theorem One.same (h : One w u m c N wr) (hN : N ≤ 1000000000) (x y : Nat) (hx : x < m) (hy : y < m) :
    Calls Try.prog 20 #[.pointer (some ⟨w.heap.size, 0, none⟩), .int .i64 (x : Nat), .int .i64 (y : Nat)] wr fun e w' => e = .returned (.bool (c x == c y)) ∧ One w u m c (N + 42) w' ∧ Else (fun k => w.heap.size ≤ k ∧ k < u) wr w' := by
  obtain ⟨ro, st, h1, h3, h5, h6⟩ := h
  have hd := dg_le h1.few
  refine (same_in h1 (by omega) x y hx hy).mono ?_
  rintro e w' ⟨k, rfl, hk, hU, hE⟩
  exact ⟨rfl, ⟨ro, _, hU, by omega, h5.trans (hE.below (fun k hk => hk.1) h5.size), Nat.le_trans h6 hE.size⟩, hE⟩
end
/-- A pair, within the forest. -/
def pr1 (m : Nat) (p : Nat × Nat) : Nat × Nat := (p.1 % m, p.2 % m)
end Go.Proofs.Ytamieophdnnbnaa.Un
