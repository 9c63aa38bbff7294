/- Plain facts: what of merged spans lies in the first n bytes; how many bytes these are. Nothing here speaks of the program. -/
import Derived.Test.YtlifkfihpmkffaaSpQ0
namespace Go.Proofs.Ytlifkfihpmkffaa

def clip (n : Int) (s : Sp) : Sp := (max s.1 0, min s.2 n)
def insideL (n : Int) (M : List Sp) : List Sp := (M.map (clip n)).filter (fun s => decide (s.1 < s.2))
theorem insideL_snoc (n : Int) (M : List Sp) (s : Sp) : insideL n (M ++ [s]) = if (clip n s).1 < (clip n s).2 then insideL n M ++ [clip n s] else insideL n M := by
  unfold insideL
  rw [List.map_append, List.filter_append]
  by_cases h : (clip n s).1 < (clip n s).2 <;> simp [h]
theorem insideL_take (n : Int) (M : List Sp) (k : Nat) (hk : k < M.length) : insideL n (M.take (k + 1)) = if (clip n M[k]).1 < (clip n M[k]).2 then insideL n (M.take k) ++ [clip n M[k]] else insideL n (M.take k) := by
  rw [List.take_succ_eq_append_getElem hk, insideL_snoc]
theorem insideL_length (n : Int) (M : List Sp) : (insideL n M).length ≤ M.length := by
  unfold insideL
  have := List.length_filter_le (fun s : Sp => decide (s.1 < s.2)) (M.map (clip n))
  simpa using this
theorem insideL_cov (n : Int) (M : List Sp) (i : Int) : Cov i (insideL n M) ↔ 0 ≤ i ∧ i < n ∧ Cov i M := by
  constructor
  · rintro ⟨t, ht, h1, h2⟩
    unfold insideL at ht
    rw [List.mem_filter, List.mem_map] at ht
    obtain ⟨⟨s, hs, rfl⟩, _⟩ := ht
    simp only [clip] at h1 h2
    exact ⟨by omega, by omega, s, hs, by omega, by omega⟩
  · rintro ⟨h0, hn, s, hs, h1, h2⟩
    refine ⟨clip n s, ?_, by simp only [clip]; omega, by simp only [clip]; omega⟩
    unfold insideL
    rw [List.mem_filter, List.mem_map]
    exact ⟨⟨s, hs, rfl⟩, decide_eq_true (by simp only [clip]; omega)⟩
theorem insideL_canon (n : Int) (M : List Sp) (hc : Canon M) : Canon (insideL n M) := by
  refine ⟨fun s hs => ?_, ?_⟩
  · unfold insideL at hs
    rw [List.mem_filter] at hs
    simpa using hs.2
  · unfold insideL
    refine List.Pairwise.filter _ ?_
    rw [List.pairwise_map]
    induction M with
    | nil => exact List.Pairwise.nil
    | cons s M ih =>
      rw [List.pairwise_cons]
      refine ⟨fun t ht => ?_, ih hc.tail⟩
      have h1 := (List.pairwise_cons.1 hc.2).1 t ht
      simp only [clip]
      omega
/-- How many bytes spans have in all, each counted by itself. -/
def sumLen (l : List Sp) : Int := (l.map fun s => s.2 - s.1).sum
theorem sumLen_snoc (l : List Sp) (s : Sp) : sumLen (l ++ [s]) = sumLen l + (s.2 - s.1) := by simp [sumLen]
theorem sumLen_bound (n : Int) (l : List Sp) (h : ∀ s ∈ l, 0 ≤ s.2 - s.1 ∧ s.2 - s.1 ≤ n) : 0 ≤ sumLen l ∧ sumLen l ≤ l.length * n := by
  induction l with
  | nil => simp [sumLen]
  | cons s l ih =>
    obtain ⟨i1, i2⟩ := ih fun t ht => h t (List.mem_cons_of_mem _ ht)
    have h1 := h s (by simp)
    have e : sumLen (s :: l) = (s.2 - s.1) + sumLen l := by simp [sumLen]
    have e2 : ((s :: l).length : Int) * n = n + l.length * n := by
      rw [List.length_cons, Int.natCast_add, Int.add_mul]; simp [Int.add_comm]
    rw [e, e2]
    omega
theorem insideL_mem (n : Int) (M : List Sp) : ∀ s ∈ insideL n M, 0 ≤ s.1 ∧ s.1 < s.2 ∧ s.2 ≤ n := by
  intro s hs
  unfold insideL at hs
  rw [List.mem_filter, List.mem_map] at hs
  obtain ⟨⟨t, _, rfl⟩, h⟩ := hs
  have := of_decide_eq_true h
  simp only [clip] at this ⊢
  omega
/-- How many of the first n bytes spans have. -/
def cnt (p : Int → Bool) : Nat → Int
  | 0 => 0
  | n + 1 => cnt p n + if p n then 1 else 0
theorem cnt_congr (p q : Int → Bool) (n : Nat) (h : ∀ i : Nat, i < n → p i = q i) : cnt p n = cnt q n := by
  induction n with
  | zero => rfl
  | succ n ih => rw [cnt, cnt, ih (fun i hi => h i (by omega)), h n (by omega)]
theorem cnt_span (a b : Int) (n : Nat) (h0 : 0 ≤ a) (hab : a ≤ b) : cnt (fun i => decide (a ≤ i) && decide (i < b)) n = max 0 (min b n - a) := by
  induction n with
  | zero => rw [cnt]; omega
  | succ n ih =>
    rw [cnt, ih]
    by_cases h1 : a ≤ (n : Int) <;> by_cases h2 : (n : Int) < b <;> simp [h1, h2] <;> omega
theorem cnt_or (p q : Int → Bool) (n : Nat) (h : ∀ i : Nat, i < n → ¬ (p i = true ∧ q i = true)) : cnt (fun i => p i || q i) n = cnt p n + cnt q n := by
  induction n with
  | zero => rfl
  | succ n ih =>
    rw [cnt, cnt, cnt, ih fun i hi => h i (by omega)]
    have := h n (by omega)
    cases hp : p n <;> cases hq : q n <;> simp_all <;> omega
/-- Which bytes spans have, as a test. -/
def hasB (l : List Sp) (i : Int) : Bool := l.any fun s => decide (s.1 ≤ i) && decide (i < s.2)
theorem hasB_cov (l : List Sp) (i : Int) : hasB l i = true ↔ Cov i l := by
  unfold hasB Cov
  rw [List.any_eq_true]
  simp
theorem sumLen_cnt (n : Nat) (L : List Sp) (hc : Canon L) (hin : ∀ s ∈ L, 0 ≤ s.1 ∧ s.1 < s.2 ∧ s.2 ≤ n) : sumLen L = cnt (hasB L) n := by
  induction L with
  | nil =>
    have : ∀ m, cnt (hasB []) m = 0 := by
      intro m
      induction m with
      | zero => rfl
      | succ m ih => rw [cnt, ih]; simp [hasB]
    rw [this]
    simp [sumLen]
  | cons s L ih =>
    have h1 := hin s (by simp)
    have e : sumLen (s :: L) = (s.2 - s.1) + sumLen L := by simp [sumLen]
    have e2 : cnt (hasB (s :: L)) n = cnt (fun i => decide (s.1 ≤ i) && decide (i < s.2)) n + cnt (hasB L) n := by
      rw [← cnt_or]
      · rfl
      · rintro i _ ⟨p1, p2⟩
        have q := (hasB_cov L i).1 p2
        have := hc.head.2 _ q
        simp at p1
        omega
    rw [e, e2, cnt_span _ _ _ h1.1 (by omega), ih hc.tail fun t ht => hin t (List.mem_cons_of_mem _ ht)]
    omega
/-- What the sum over the parts inside is. -/
theorem count_ok (n : Nat) (M l : List Sp) (hc : Canon M) (hcov : ∀ i, Cov i M ↔ Cov i l) : sumLen (insideL n M) = cnt (hasB l) n := by
  rw [sumLen_cnt n _ (insideL_canon n M hc) (insideL_mem n M)]
  refine cnt_congr _ _ _ fun i hi => ?_
  have h1 : hasB (insideL n M) i = true ↔ hasB l i = true := by
    rw [hasB_cov, hasB_cov, insideL_cov, hcov]
    constructor
    · exact fun h => h.2.2
    · exact fun h => ⟨by omega, by omega, h⟩
  cases ha : hasB (insideL n M) i <;> cases hb : hasB l i <;> simp_all
end Go.Proofs.Ytlifkfihpmkffaa
