/- Plain facts on spans: what bytes they have; lists that are merged; that there is one such list alone. Nothing here speaks of the program. -/
import Derived.Below
namespace Go.Proofs.Ytlifkfihpmkffaa

abbrev Sp := Int × Int
def Cov (i : Int) (l : List Sp) : Prop := ∃ s ∈ l, s.1 ≤ i ∧ i < s.2
/-- Merged: each has bytes, and between two of them a byte lacks. -/
def Canon (l : List Sp) : Prop := (∀ s ∈ l, s.1 < s.2) ∧ l.Pairwise (fun a b => a.2 < b.1)

theorem Cov.nil (i : Int) : ¬ Cov i [] := by rintro ⟨s, h, _⟩; cases h
theorem Cov.cons (i : Int) (s : Sp) (l : List Sp) : Cov i (s :: l) ↔ (s.1 ≤ i ∧ i < s.2) ∨ Cov i l := by
  constructor
  · rintro ⟨t, ht, h⟩
    rcases List.mem_cons.1 ht with rfl | ht
    · exact .inl h
    · exact .inr ⟨t, ht, h⟩
  · rintro (h | ⟨t, ht, h⟩)
    · exact ⟨s, by simp, h⟩
    · exact ⟨t, List.mem_cons_of_mem _ ht, h⟩
theorem Cov.append (i : Int) (l m : List Sp) : Cov i (l ++ m) ↔ Cov i l ∨ Cov i m := by
  constructor
  · rintro ⟨t, ht, h⟩
    rcases List.mem_append.1 ht with ht | ht
    · exact .inl ⟨t, ht, h⟩
    · exact .inr ⟨t, ht, h⟩
  · rintro (⟨t, ht, h⟩ | ⟨t, ht, h⟩)
    · exact ⟨t, List.mem_append_left _ ht, h⟩
    · exact ⟨t, List.mem_append_right _ ht, h⟩
theorem Cov.perm {l m : List Sp} (h : l.Perm m) (i : Int) : Cov i l ↔ Cov i m := by
  constructor
  · rintro ⟨t, ht, hh⟩; exact ⟨t, h.mem_iff.1 ht, hh⟩
  · rintro ⟨t, ht, hh⟩; exact ⟨t, h.mem_iff.2 ht, hh⟩
theorem Canon.tail {s : Sp} {l : List Sp} (h : Canon (s :: l)) : Canon l := ⟨fun t ht => h.1 t (List.mem_cons_of_mem _ ht), (List.pairwise_cons.1 h.2).2⟩
theorem Canon.head {s : Sp} {l : List Sp} (h : Canon (s :: l)) : s.1 < s.2 ∧ ∀ i, Cov i l → s.2 < i := by
  refine ⟨h.1 s (by simp), ?_⟩
  rintro i ⟨t, ht, h1, h2⟩
  have := (List.pairwise_cons.1 h.2).1 t ht
  omega
/-- There is one merged list alone that has given bytes. -/
theorem Canon.unique : ∀ (l m : List Sp), Canon l → Canon m → (∀ i, Cov i l ↔ Cov i m) → l = m := by
  intro l
  induction l with
  | nil =>
    intro m _ hm h
    cases m with
    | nil => rfl
    | cons t m =>
      have := hm.head.1
      exact absurd ((h t.1).2 ((Cov.cons _ _ _).2 (.inl ⟨Int.le_refl _, this⟩))) (Cov.nil _)
  | cons s l ih =>
    intro m hl hm h
    cases m with
    | nil =>
      have := hl.head.1
      exact absurd ((h s.1).1 ((Cov.cons _ _ _).2 (.inl ⟨Int.le_refl _, this⟩))) (Cov.nil _)
    | cons t m =>
      obtain ⟨s1, s2⟩ := s
      obtain ⟨t1, t2⟩ := t
      obtain ⟨a1, a2⟩ := hl.head
      obtain ⟨b1, b2⟩ := hm.head
      simp only at a1 a2 b1 b2
      have h' : ∀ i, (s1 ≤ i ∧ i < s2) ∨ Cov i l ↔ (t1 ≤ i ∧ i < t2) ∨ Cov i m := fun i => by
        have := h i
        rw [Cov.cons, Cov.cons] at this
        exact this
      have e1 : s1 = t1 := by
        have x := (h' s1).1 (.inl ⟨Int.le_refl _, a1⟩)
        have y := (h' t1).2 (.inl ⟨Int.le_refl _, b1⟩)
        have x' : t1 ≤ s1 := by
          rcases x with x | x
          · exact x.1
          · have := b2 _ x; omega
        have y' : s1 ≤ t1 := by
          rcases y with y | y
          · exact y.1
          · have := a2 _ y; omega
        omega
      subst e1
      have e2 : s2 = t2 := by
        rcases Int.lt_trichotomy s2 t2 with hlt | heq | hgt
        · have x := (h' s2).2 (.inl ⟨by omega, hlt⟩)
          rcases x with x | x
          · omega
          · have := a2 _ x; omega
        · exact heq
        · have x := (h' t2).1 (.inl ⟨by omega, hgt⟩)
          rcases x with x | x
          · omega
          · have := b2 _ x; omega
      subst e2
      congr 1
      refine ih m hl.tail hm.tail fun i => ?_
      constructor
      · intro hi
        have := a2 _ hi
        rcases (h' i).1 (.inr hi) with x | x
        · omega
        · exact x
      · intro hi
        have := b2 _ hi
        rcases (h' i).2 (.inr hi) with x | x
        · omega
        · exact x

/-- One span more, where none of those that there are begins behind it. -/
def mergeStep (acc : List Sp) (s : Sp) : List Sp :=
  match acc.getLast? with
  | none => [s]
  | some t => if s.1 ≤ t.2 then acc.dropLast ++ [(t.1, max t.2 s.2)] else acc ++ [s]
theorem mergeStep_nil (s : Sp) : mergeStep [] s = [s] := rfl
theorem mergeStep_join (acc : List Sp) (t s : Sp) (h : s.1 ≤ t.2) : mergeStep (acc ++ [t]) s = acc ++ [(t.1, max t.2 s.2)] := by
  unfold mergeStep
  simp [h]
theorem mergeStep_new (acc : List Sp) (t s : Sp) (h : ¬ s.1 ≤ t.2) : mergeStep (acc ++ [t]) s = acc ++ [t] ++ [s] := by
  unfold mergeStep
  simp [h]
theorem canon_snoc (acc : List Sp) (t : Sp) : Canon (acc ++ [t]) ↔ Canon acc ∧ t.1 < t.2 ∧ ∀ a ∈ acc, a.2 < t.1 := by
  unfold Canon
  rw [List.pairwise_append]
  constructor
  · rintro ⟨h1, h2, _, h3⟩
    exact ⟨⟨fun s hs => h1 s (by simp [hs]), h2⟩, h1 t (by simp), fun a ha => h3 a ha t (by simp)⟩
  · rintro ⟨⟨h1, h2⟩, h3, h4⟩
    refine ⟨?_, h2, by simp, fun a ha b hb => ?_⟩
    · intro s hs
      rcases List.mem_append.1 hs with hs | hs
      · exact h1 s hs
      · simp at hs; subst hs; exact h3
    · simp at hb; subst hb; exact h4 a ha
theorem mergeStep_ok (acc : List Sp) (s : Sp) (hc : Canon acc) (hs : s.1 < s.2) (ho : ∀ t ∈ acc, t.1 ≤ s.1) :
    Canon (mergeStep acc s) ∧ (∀ i, Cov i (mergeStep acc s) ↔ Cov i acc ∨ (s.1 ≤ i ∧ i < s.2)) ∧ ∀ t ∈ mergeStep acc s, t.1 ≤ s.1 := by
  rcases List.eq_nil_or_concat acc with rfl | ⟨acc', t, rfl⟩
  · rw [mergeStep_nil]
    refine ⟨⟨by simp; exact hs, by simp⟩, fun i => ?_, by simp⟩
    rw [Cov.cons]
    constructor
    · rintro (h | h)
      · exact .inr h
      · exact absurd h (Cov.nil _)
    · rintro (h | h)
      · exact absurd h (Cov.nil _)
      · exact .inl h
  · simp only [List.concat_eq_append] at *
    obtain ⟨h1, h2, h3⟩ := (canon_snoc acc' t).1 hc
    have hot := ho t (by simp)
    by_cases hj : s.1 ≤ t.2
    · rw [mergeStep_join _ _ _ hj]
      refine ⟨(canon_snoc _ _).2 ⟨h1, by simp only; omega, h3⟩, fun i => ?_, ?_⟩
      · rw [Cov.append, Cov.append, Cov.cons, Cov.cons]
        simp only [Cov.nil, or_false]
        constructor
        · rintro (h | h)
          · exact .inl (.inl h)
          · rcases Int.lt_or_le i t.2 with hi | hi
            · exact .inl (.inr ⟨h.1, hi⟩)
            · exact .inr ⟨by omega, by omega⟩
        · rintro ((h | h) | h)
          · exact .inl h
          · exact .inr ⟨h.1, by omega⟩
          · exact .inr ⟨by omega, by omega⟩
      · intro u hu
        rcases List.mem_append.1 hu with hu | hu
        · exact ho u (by simp [hu])
        · simp at hu; subst hu; exact hot
    · rw [mergeStep_new _ _ _ hj]
      refine ⟨(canon_snoc _ _).2 ⟨hc, hs, ?_⟩, fun i => ?_, ?_⟩
      · intro a ha
        rcases List.mem_append.1 ha with ha | ha
        · have := h3 a ha; omega
        · simp at ha; subst ha; omega
      · rw [Cov.append (l := acc' ++ [t]), Cov.cons]
        simp only [Cov.nil, or_false]
      · intro u hu
        rcases List.mem_append.1 hu with hu | hu
        · exact ho u hu
        · simp at hu; subst hu; exact Int.le_refl _
/-- All of a list whose spans rise, one by one; those without bytes are passed over. -/
def mergeAll (l : List Sp) : List Sp := l.foldl (fun acc s => if s.1 < s.2 then mergeStep acc s else acc) []
theorem mergeAll_ok (l : List Sp) (hr : l.Pairwise (fun a b => a.1 ≤ b.1)) : Canon (mergeAll l) ∧ (∀ i, Cov i (mergeAll l) ↔ Cov i l) ∧ ∀ t ∈ mergeAll l, ∃ s ∈ l, t.1 ≤ s.1 := by
  have key : ∀ (n : Nat), n ≤ l.length → Canon (mergeAll (l.take n)) ∧ (∀ i, Cov i (mergeAll (l.take n)) ↔ Cov i (l.take n)) ∧ ∀ t ∈ mergeAll (l.take n), ∃ s ∈ l.take n, t.1 ≤ s.1 := by
    intro n
    induction n with
    | zero => intro _; exact ⟨⟨by simp [mergeAll], by simp [mergeAll]⟩, by simp [mergeAll], by simp [mergeAll]⟩
    | succ n ih =>
      intro hn
      obtain ⟨i1, i2, i3⟩ := ih (by omega)
      have e : l.take (n + 1) = l.take n ++ [l[n]] := List.take_succ_eq_append_getElem (by omega)
      have em : mergeAll (l.take (n + 1)) = if l[n].1 < l[n].2 then mergeStep (mergeAll (l.take n)) l[n] else mergeAll (l.take n) := by
        rw [e]; unfold mergeAll; rw [List.foldl_append]; rfl
      have hle : ∀ s ∈ l.take n, s.1 ≤ l[n].1 := by
        have hp := hr.sublist (List.take_sublist (n + 1) l)
        rw [e, List.pairwise_append] at hp
        exact fun s hs => hp.2.2 s hs _ (List.mem_singleton.2 rfl)
      rw [em]
      split
      · rename_i hlt
        obtain ⟨j1, j2, j3⟩ := mergeStep_ok _ l[n] i1 hlt (fun t ht => by
          obtain ⟨s, hs, h⟩ := i3 t ht
          have := hle s hs
          omega)
        refine ⟨j1, fun i => ?_, fun t ht => ⟨l[n], by rw [e]; exact List.mem_append_right _ (List.mem_singleton.2 rfl), j3 t ht⟩⟩
        rw [j2, i2, e, Cov.append, Cov.cons]
        simp only [Cov.nil, or_false]
      · rename_i hge
        refine ⟨i1, fun i => ?_, fun t ht => ?_⟩
        · rw [i2, e, Cov.append, Cov.cons]
          simp only [Cov.nil, or_false]
          constructor
          · exact .inl
          · rintro (h | h)
            · exact h
            · omega
        · obtain ⟨s, hs, h⟩ := i3 t ht
          exact ⟨s, by rw [e]; exact List.mem_append_left _ hs, h⟩
  have := key l.length (Nat.le_refl _)
  rw [List.take_length] at this
  exact this
end Go.Proofs.Ytlifkfihpmkffaa
