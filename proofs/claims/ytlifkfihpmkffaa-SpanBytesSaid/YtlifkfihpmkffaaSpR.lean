/- Plain facts on the document's answer for merged spans: a span that takes in all that it touches, laid in its place. Nothing here speaks of the program. -/
import Derived.Test.YtlifkfihpmkffaaSpP
namespace Go.Proofs.Ytlifkfihpmkffaa

/-- All that touches a span, taken in; the others as they are. -/
def refFold : List Sp → Sp → List Sp → Sp × List Sp
  | [], s, rest => (s, rest)
  | t :: o, s, rest => if t.1 ≤ s.2 ∧ s.1 ≤ t.2 then refFold o (min s.1 t.1, max s.2 t.2) rest else refFold o s (rest ++ [t])
/-- Apart: a byte lacks between them. -/
def Apart (s r : Sp) : Prop := r.2 < s.1 ∨ s.2 < r.1

theorem refFold_ok (o : List Sp) : ∀ (s : Sp) (rest : List Sp), s.1 < s.2 → Canon o → Canon rest → (∀ r ∈ rest, ∀ t ∈ o, r.2 < t.1) →
    (∀ r ∈ rest, r.2 < s.1 ∨ (s.2 < r.1 ∧ ∀ t ∈ o, s.2 < t.1)) →
    (refFold o s rest).1.1 < (refFold o s rest).1.2 ∧ Canon (refFold o s rest).2 ∧ (∀ r ∈ (refFold o s rest).2, Apart (refFold o s rest).1 r) ∧
    (∀ i, ((refFold o s rest).1.1 ≤ i ∧ i < (refFold o s rest).1.2) ∨ Cov i (refFold o s rest).2 ↔ (s.1 ≤ i ∧ i < s.2) ∨ Cov i rest ∨ Cov i o) := by
  induction o with
  | nil =>
    intro s rest hs _ hr _ ha
    refine ⟨hs, hr, fun r h => ?_, fun i => ?_⟩
    · rcases ha r h with h1 | ⟨h1, _⟩
      · exact .inl h1
      · exact .inr h1
    · simp only [refFold, Cov.nil, or_false]
  | cons t o ih =>
    intro s rest hs hc hr hro ha
    obtain ⟨ht1, ht2⟩ := hc.head
    have hto : ∀ u ∈ o, t.2 < u.1 := fun u hu => (List.pairwise_cons.1 hc.2).1 u hu
    rw [refFold]
    by_cases hj : t.1 ≤ s.2 ∧ s.1 ≤ t.2
    · rw [if_pos hj]
      obtain ⟨j1, j2, j3, j4⟩ := ih (min s.1 t.1, max s.2 t.2) rest (by simp only; omega) hc.tail hr (fun r h u hu => hro r h u (List.mem_cons_of_mem _ hu)) (fun r h => by
        have hrt := hro r h t (by simp)
        rcases ha r h with h1 | ⟨h1, h2⟩
        · left; simp only; omega
        · have := h2 t (by simp); omega)
      refine ⟨j1, j2, j3, fun i => ?_⟩
      rw [j4, Cov.cons]
      simp only
      constructor
      · rintro (h | h | h)
        · rcases Int.lt_or_le i s.2 with h1 | h1
          · rcases Int.lt_or_le i s.1 with h2 | h2
            · exact .inr (.inr (.inl ⟨by omega, by omega⟩))
            · exact .inl ⟨h2, h1⟩
          · exact .inr (.inr (.inl ⟨by omega, by omega⟩))
        · exact .inr (.inl h)
        · exact .inr (.inr (.inr h))
      · rintro (h | h | h | h)
        · exact .inl ⟨by omega, by omega⟩
        · exact .inr (.inl h)
        · exact .inl ⟨by omega, by omega⟩
        · exact .inr (.inr h)
    · rw [if_neg hj]
      have hside : t.2 < s.1 ∨ s.2 < t.1 := by omega
      obtain ⟨j1, j2, j3, j4⟩ := ih s (rest ++ [t]) hs hc.tail ((canon_snoc _ _).2 ⟨hr, ht1, fun r h => hro r h t (by simp)⟩) (fun r h u hu => by
        rcases List.mem_append.1 h with h | h
        · exact hro r h u (List.mem_cons_of_mem _ hu)
        · simp at h; subst h; exact hto u hu) (fun r h => by
        rcases List.mem_append.1 h with h | h
        · rcases ha r h with h1 | ⟨h1, h2⟩
          · exact .inl h1
          · exact .inr ⟨h1, fun u hu => h2 u (List.mem_cons_of_mem _ hu)⟩
        · simp at h; subst h
          rcases hside with h1 | h1
          · exact .inl h1
          · exact .inr ⟨h1, fun u hu => by have := hto u hu; omega⟩)
      refine ⟨j1, j2, j3, fun i => ?_⟩
      rw [j4, Cov.append, Cov.cons, Cov.cons]
      simp only [Cov.nil, or_false]
      constructor
      · rintro (h | (h | h) | h)
        · exact .inl h
        · exact .inr (.inl h)
        · exact .inr (.inr (.inl h))
        · exact .inr (.inr (.inr h))
      · rintro (h | h | h | h)
        · exact .inl h
        · exact .inr (.inl (.inl h))
        · exact .inr (.inl (.inr h))
        · exact .inr (.inr h)
/-- How many of a list's first spans begin ahead of a place. -/
def ahead_ (p : Int) : List Sp → Nat
  | [] => 0
  | t :: l => if t.1 < p then ahead_ p l + 1 else 0
theorem ahead_le (p : Int) (l : List Sp) : ahead_ p l ≤ l.length := by
  induction l with
  | nil => simp [ahead_]
  | cons t l ih => rw [ahead_]; split <;> simp <;> omega
/-- One span more, laid in its place. -/
def refStep (out : List Sp) (s : Sp) : List Sp :=
  let (s', rest) := refFold out s []
  rest.take (ahead_ s'.1 rest) ++ [s'] ++ rest.drop (ahead_ s'.1 rest)
theorem insert_ok (s : Sp) (hs : s.1 < s.2) (rest : List Sp) : Canon rest → (∀ r ∈ rest, Apart s r) →
    Canon (rest.take (ahead_ s.1 rest) ++ [s] ++ rest.drop (ahead_ s.1 rest)) ∧ ∀ i, Cov i (rest.take (ahead_ s.1 rest) ++ [s] ++ rest.drop (ahead_ s.1 rest)) ↔ (s.1 ≤ i ∧ i < s.2) ∨ Cov i rest := by
  induction rest with
  | nil =>
    intro _ _
    refine ⟨⟨by simp [ahead_]; exact hs, by simp [ahead_]⟩, fun i => ?_⟩
    simp only [ahead_, List.take_nil, List.drop_nil, List.nil_append, List.append_nil, Cov.cons]
  | cons t l ih =>
    intro hc ha
    obtain ⟨ht1, ht2⟩ := hc.head
    have hat := ha t (by simp)
    rw [ahead_]
    by_cases hlt : t.1 < s.1
    · rw [if_pos hlt]
      obtain ⟨j1, j2⟩ := ih hc.tail (fun r h => ha r (List.mem_cons_of_mem _ h))
      have e : (t :: l).take (ahead_ s.1 l + 1) ++ [s] ++ (t :: l).drop (ahead_ s.1 l + 1) = t :: (l.take (ahead_ s.1 l) ++ [s] ++ l.drop (ahead_ s.1 l)) := by simp
      rw [e]
      have hts : t.2 < s.1 := by
        rcases hat with h | h
        · exact h
        · omega
      refine ⟨⟨fun u hu => ?_, List.pairwise_cons.2 ⟨fun u hu => ?_, j1.2⟩⟩, fun i => ?_⟩
      · rcases List.mem_cons.1 hu with rfl | hu
        · exact ht1
        · exact j1.1 u hu
      · rcases List.mem_append.1 hu with hu | hu
        · rcases List.mem_append.1 hu with hu | hu
          · exact (List.pairwise_cons.1 hc.2).1 u (List.mem_of_mem_take hu)
          · simp at hu; subst hu; exact hts
        · exact (List.pairwise_cons.1 hc.2).1 u (List.mem_of_mem_drop hu)
      · rw [Cov.cons, j2, Cov.cons]
        constructor
        · rintro (h | h | h)
          · exact .inr (.inl h)
          · exact .inl h
          · exact .inr (.inr h)
        · rintro (h | h | h)
          · exact .inr (.inl h)
          · exact .inl h
          · exact .inr (.inr h)
    · rw [if_neg hlt]
      have hst : s.2 < t.1 := by
        rcases hat with h | h
        · omega
        · exact h
      simp only [List.take_zero, List.nil_append, List.drop_zero, List.singleton_append]
      refine ⟨⟨fun u hu => ?_, List.pairwise_cons.2 ⟨fun u hu => ?_, hc.2⟩⟩, fun i => Cov.cons i s _⟩
      · rcases List.mem_cons.1 hu with rfl | hu
        · exact hs
        · exact hc.1 u hu
      · rcases List.mem_cons.1 hu with rfl | hu
        · exact hst
        · have := (List.pairwise_cons.1 hc.2).1 u hu; omega
theorem refStep_ok (out : List Sp) (s : Sp) (hc : Canon out) (hs : s.1 < s.2) : Canon (refStep out s) ∧ ∀ i, Cov i (refStep out s) ↔ Cov i out ∨ (s.1 ≤ i ∧ i < s.2) := by
  obtain ⟨j1, j2, j3, j4⟩ := refFold_ok out s [] hs hc ⟨by simp, by simp⟩ (by simp) (by simp)
  unfold refStep
  obtain ⟨k1, k2⟩ := insert_ok _ j1 _ j2 j3
  refine ⟨k1, fun i => ?_⟩
  rw [k2, j4]
  simp only [Cov.nil, false_or]
  exact or_comm
/-- All of a list, in whatever order. -/
def refAll (l : List Sp) : List Sp := l.foldl (fun out s => if s.1 < s.2 then refStep out s else out) []
theorem refAll_ok (l : List Sp) : Canon (refAll l) ∧ ∀ i, Cov i (refAll l) ↔ Cov i l := by
  have key : ∀ (m out : List Sp), Canon out → Canon (m.foldl (fun out s => if s.1 < s.2 then refStep out s else out) out) ∧ ∀ i, Cov i (m.foldl (fun out s => if s.1 < s.2 then refStep out s else out) out) ↔ Cov i out ∨ Cov i m := by
    intro m
    induction m with
    | nil => intro out h; exact ⟨h, fun i => by simp [Cov.nil]⟩
    | cons s m ih =>
      intro out h
      rw [List.foldl_cons]
      by_cases hs : s.1 < s.2
      · rw [if_pos hs]
        obtain ⟨j1, j2⟩ := refStep_ok out s h hs
        obtain ⟨k1, k2⟩ := ih _ j1
        refine ⟨k1, fun i => ?_⟩
        rw [k2, j2, Cov.cons, or_assoc]
      · rw [if_neg hs]
        obtain ⟨k1, k2⟩ := ih _ h
        refine ⟨k1, fun i => ?_⟩
        rw [k2, Cov.cons]
        constructor
        · rintro (h | h)
          · exact .inl h
          · exact .inr (.inr h)
        · rintro (h | h | h)
          · exact .inl h
          · omega
          · exact .inr h
  obtain ⟨h1, h2⟩ := key l [] ⟨by simp, by simp⟩
  refine ⟨h1, fun i => ?_⟩
  have := h2 i
  simp only [Cov.nil, false_or] at this
  exact this
end Go.Proofs.Ytlifkfihpmkffaa
