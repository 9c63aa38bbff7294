/- Sets that become one: how many there are, what was joined, and the ring of each set (nothing here speaks of the program). -/
import Derived.Test.YtamieophdnnbnaaUnP
namespace Go.Proofs.Ytamieophdnnbnaa.Un

/-- What joins were made, and what follows of them alone. -/
structure Joined (n : Nat) (E : List (Nat × Nat)) (col : Nat → Nat) : Prop where
  holds : ∀ e ∈ E, col e.1 = col e.2
  only : ∀ R : Nat → Prop, (∀ e ∈ E, R e.1 ↔ R e.2) → ∀ x y, x < n → y < n → col x = col y → (R x ↔ R y)
theorem Joined.none (n : Nat) : Joined n [] (fun k => k) := by
  refine ⟨fun e he => (by cases he), fun R _ x y _ _ e => ?_⟩
  have e : x = y := e
  rw [e]
theorem Joined.one {n : Nat} {E : List (Nat × Nat)} {col : Nat → Nat} (h : Joined n E col) {a b : Nat} (ha : a < n) (hb : b < n) : Joined n ((a, b) :: E) (paint col a b) := by
  refine ⟨fun e he => ?_, fun R hR x y hx hy e => ?_⟩
  · rcases List.mem_cons.1 he with rfl | he
    · rw [paint_eq]; exact .inr ⟨.inl rfl, .inr rfl⟩
    · rw [paint_eq]; exact .inl (h.holds e he)
  · have hE := h.only R fun e he => hR e (List.mem_cons_of_mem _ he)
    have hab : R a ↔ R b := hR (a, b) List.mem_cons_self
    have to : ∀ z, z < n → (col z = col a ∨ col z = col b) → (R z ↔ R a) := by
      rintro z hz (e | e)
      · exact hE z a hz ha e
      · exact (hE z b hz hb e).trans hab.symm
    rcases (paint_eq _ _ _ _ _).1 e with e | ⟨e1, e2⟩
    · exact hE x y hx hy e
    · exact (to x hx e1).trans (to y hy e2).symm
theorem Joined.ker {n : Nat} {E F : List (Nat × Nat)} {c d : Nat → Nat} (h : Joined n E c) (k : Joined n F d) (hEF : ∀ R : Nat → Prop, (∀ e ∈ E, R e.1 ↔ R e.2) ↔ (∀ e ∈ F, R e.1 ↔ R e.2)) : Ker n c d := by
  intro i j hi hj
  constructor
  · intro e
    exact ((h.only (fun z => d z = d j) ((hEF (fun z => d z = d j)).2 fun e he => by show d e.1 = d j ↔ d e.2 = d j; rw [k.holds e he]) i j hi hj e).2 rfl)
  · intro e
    exact ((k.only (fun z => c z = c j) ((hEF (fun z => c z = c j)).1 fun e he => by show c e.1 = c j ↔ c e.2 = c j; rw [h.holds e he]) i j hi hj e).2 rfl)

/-- The first one of a color. -/
theorem first_of (n : Nat) (col : Nat → Nat) (x : Nat) (hx : x < n) : ∃ i, i < n ∧ col i = col x ∧ ∀ j, j < i → col j ≠ col i := by
  induction x using Nat.strongRecOn with
  | ind x ih =>
    by_cases h : ∃ j, j < x ∧ col j = col x
    · obtain ⟨j, hj, e⟩ := h
      obtain ⟨i, hi, ei, hf⟩ := ih j hj (by omega)
      exact ⟨i, hi, ei.trans e, hf⟩
    · exact ⟨x, hx, rfl, fun j hj e => h ⟨j, hj, e⟩⟩
def fst_ (col : Nat → Nat) (i : Nat) : Bool := (List.range i).all fun j => !(col j == col i)
theorem fst_iff (col : Nat → Nat) (i : Nat) : fst_ col i = true ↔ ∀ j, j < i → col j ≠ col i := by
  unfold fst_
  simp only [List.all_eq_true, List.mem_range, Bool.not_eq_true', beq_eq_false_iff_ne, ne_eq]
theorem cnt_eq (n : Nat) (col : Nat → Nat) : cnt n col = (List.range n).countP (fst_ col) := rfl
theorem countP_one {n m : Nat} (hm : m < n) : (List.range n).countP (fun k => k == m) = 1 := by
  have : (List.range n).countP (fun k => k == m) = (List.range n).count m := rfl
  rw [this, List.Nodup.count List.nodup_range, if_pos (List.mem_range.2 hm)]
/-- A color fewer. -/
theorem cnt_paint {n : Nat} {col : Nat → Nat} {a b : Nat} (ha : a < n) (hb : b < n) (hne : col a ≠ col b) : cnt n col = cnt n (paint col a b) + 1 := by
  obtain ⟨i, hi, ei, fi⟩ := first_of n col a ha
  obtain ⟨j, hj, ej, fj⟩ := first_of n col b hb
  have hij : i ≠ j := fun e => hne (by rw [← ei, ← ej, e])
  -- the greater one of the two first ones is a first one no more
  have key : ∀ k, k < n → (fst_ col k = (fst_ (paint col a b) k || k == max i j) ∧ ¬ (fst_ (paint col a b) k = true ∧ (k == max i j) = true)) := by
    intro k hk
    have hmaxno : ¬ (fst_ (paint col a b) (max i j) = true) := by
      intro h
      have h := (fst_iff _ _).1 h (min i j) (by omega)
      apply h
      rw [paint_eq]
      refine .inr ?_
      rcases Nat.le_total i j with e | e
      · rw [Nat.min_eq_left e, Nat.max_eq_right e]; exact ⟨.inl ei, .inr ej⟩
      · rw [Nat.min_eq_right e, Nat.max_eq_left e]; exact ⟨.inr ej, .inl ei⟩
    refine ⟨?_, fun ⟨h1, h2⟩ => hmaxno (by rw [beq_iff_eq] at h2; rwa [h2] at h1)⟩
    rw [Bool.eq_iff_iff, Bool.or_eq_true, beq_iff_eq, fst_iff, fst_iff]
    constructor
    · intro h
      by_cases hm : k = max i j
      · exact .inr hm
      · left
        intro l hl e
        rcases (paint_eq _ _ _ _ _).1 e with e | ⟨e1, e2⟩
        · exact h l hl e
        · -- k is the first one of a or of b
          have hki : k = i ∨ k = j := by
            rcases e2 with e2 | e2
            · left
              rcases Nat.lt_trichotomy k i with x | x | x
              · exact absurd (e2.trans ei.symm) (fi k x)
              · exact x
              · exact absurd (ei.trans e2.symm) (h i x)
            · right
              rcases Nat.lt_trichotomy k j with x | x | x
              · exact absurd (e2.trans ej.symm) (fj k x)
              · exact x
              · exact absurd (ej.trans e2.symm) (h j x)
          have hlm : l < i ∧ l < j := by omega
          rcases e1 with e1 | e1
          · exact fi l hlm.1 (e1.trans ei.symm)
          · exact fj l hlm.2 (e1.trans ej.symm)
    · rintro (h | h)
      · intro l hl e
        exact h l hl ((paint_eq _ _ _ _ _).2 (.inl e))
      · rcases Nat.le_total i j with e | e
        · rw [Nat.max_eq_right e] at h; rw [h]; exact fj
        · rw [Nat.max_eq_left e] at h; rw [h]; exact fi
  rw [cnt_eq, cnt_eq]
  have := countP_two (fst_ (paint col a b)) (fun k => k == max i j) (fst_ col) (List.range n) fun k hk => key k (List.mem_range.1 hk)
  rw [this, countP_one (by omega)]
theorem cnt_alone (n : Nat) (col : Nat → Nat) (h : ∀ i j, i < n → j < n → col i = col j → i = j) : cnt n col = n := by
  rw [cnt_eq]
  have : (List.range n).countP (fst_ col) = (List.range n).length := by
    rw [List.countP_eq_length]
    intro k hk
    have hk := List.mem_range.1 hk
    rw [fst_iff]
    intro j hj e
    have := h j k (by omega) hk e
    omega
  rw [this, List.length_range]

/-- From one on, by the next one each, till another one. -/
inductive Pth (nx : Nat → Nat) : Nat → List Nat → Nat → Prop
  | nil (a : Nat) : Pth nx a [] a
  | cons {a b : Nat} {L : List Nat} (h : Pth nx (nx a) L b) : Pth nx a (a :: L) b
theorem Pth.app {nx : Nat → Nat} {a b c : Nat} {L M : List Nat} (h : Pth nx a L b) (g : Pth nx b M c) : Pth nx a (L ++ M) c := by
  induction h with
  | nil a => exact g
  | cons h ih => exact .cons (ih g)
theorem Pth.cut {nx : Nat → Nat} {L1 : List Nat} : ∀ {a b c : Nat} {L2 : List Nat}, Pth nx a (L1 ++ b :: L2) c → Pth nx a L1 b ∧ Pth nx b (b :: L2) c := by
  induction L1 with
  | nil =>
    intro a b c L2 h
    cases h with
    | cons h => exact ⟨.nil _, .cons h⟩
  | cons x L1 ih =>
    intro a b c L2 h
    cases h with
    | cons h => obtain ⟨h1, h2⟩ := ih h; exact ⟨.cons h1, h2⟩
theorem Pth.same {nx ny : Nat → Nat} {a b : Nat} {L : List Nat} (h : Pth nx a L b) : (∀ k ∈ L, ny k = nx k) → Pth ny a L b := by
  induction h with
  | nil a => intro _; exact .nil _
  | @cons a b L h ih =>
    intro hk
    refine .cons ?_
    rw [hk a List.mem_cons_self]
    exact ih fun k hm => hk k (List.mem_cons_of_mem _ hm)
/-- The ring of a set, from one of it on. -/
def Ring (n : Nat) (nx col : Nat → Nat) (i : Nat) (L : List Nat) : Prop := Pth nx i L i ∧ L ≠ [] ∧ L.Nodup ∧ ∀ j, j ∈ L ↔ (j < n ∧ col j = col i)
def Rings (n : Nat) (nx col : Nat → Nat) : Prop := ∀ i, i < n → ∃ L, Ring n nx col i L
theorem Ring.next {n : Nat} {nx col : Nat → Nat} {i : Nat} {L : List Nat} (h : Ring n nx col i L) : ∃ M, L = i :: M ∧ Pth nx (nx i) M i := by
  obtain ⟨h, hne, _⟩ := h
  cases h with
  | nil => exact absurd rfl hne
  | cons h => exact ⟨_, rfl, h⟩
theorem Pth.head {nx : Nat → Nat} {a b : Nat} {L : List Nat} (h : Pth nx a L b) : a = b ∧ L = [] ∨ ∃ M, L = a :: M := by
  cases h with
  | nil => exact .inl ⟨rfl, rfl⟩
  | cons h => exact .inr ⟨_, rfl⟩
theorem Ring.nxlt {n : Nat} {nx col : Nat → Nat} {i : Nat} {L : List Nat} (h : Ring n nx col i L) : nx i < n ∧ col (nx i) = col i := by
  obtain ⟨M, rfl, hp⟩ := h.next
  rcases hp.head with ⟨e, _⟩ | ⟨M', rfl⟩
  · rw [e]; exact ⟨((h.2.2.2 i).1 List.mem_cons_self).1, rfl⟩
  · exact (h.2.2.2 _).1 (by simp)
theorem Rings.ker {n : Nat} {nx c d : Nat → Nat} (h : Rings n nx c) (k : Ker n c d) : Rings n nx d := by
  intro i hi
  obtain ⟨L, h1, h2, h3, h4⟩ := h i hi
  refine ⟨L, h1, h2, h3, fun j => ?_⟩
  rw [h4 j]
  constructor
  · rintro ⟨hj, e⟩; exact ⟨hj, (k j i hj hi).1 e⟩
  · rintro ⟨hj, e⟩; exact ⟨hj, (k j i hj hi).2 e⟩
theorem Rings.alone (n : Nat) : Rings n (fun k => k) fun k => k := by
  intro i hi
  refine ⟨[i], .cons (.nil _), by simp, by simp, fun j => ?_⟩
  simp only [List.mem_singleton]
  constructor
  · rintro rfl; exact ⟨hi, rfl⟩
  · exact fun h => h.2
def swp (nx : Nat → Nat) (a b : Nat) : Nat → Nat := upd (upd nx a (nx b)) b (nx a)
theorem swp_comm (nx : Nat → Nat) {a b : Nat} (h : a ≠ b) : swp nx a b = swp nx b a := by
  funext k
  unfold swp upd
  by_cases h1 : k = b <;> by_cases h2 : k = a <;> simp_all
theorem ring_join {n : Nat} {nx col : Nat → Nat} (h : Rings n nx col) {a b i : Nat} (hi : i < n) (ha : a < n) (hb : b < n) (hne : col a ≠ col b) (hia : col i = col a) : ∃ L, Ring n (swp nx a b) (paint col a b) i L := by
  obtain ⟨L, hL, hLne, hLd, hLm⟩ := h i hi
  obtain ⟨M, hM⟩ := h b hb
  have hMm := hM.2.2.2
  have hMd := hM.2.2.1
  obtain ⟨M2, rfl, hp⟩ := hM.next
  have haL : a ∈ L := (hLm a).2 ⟨ha, hia.symm⟩
  obtain ⟨L1, L2, rfl⟩ := List.append_of_mem haL
  obtain ⟨h1, h2⟩ := hL.cut
  have h3 : Pth nx (nx a) L2 i := by cases h2 with | cons h => exact h
  have hab : a ≠ b := fun e => hne (by rw [e])
  have hdis : ∀ k, k ∈ L1 ++ a :: L2 → k ∉ b :: M2 := fun k hk hk2 => hne (by
    have e1 := ((hLm k).1 hk).2
    have e2 := ((hMm k).1 hk2).2
    rw [← hia, ← e1, e2])
  have hLd' := List.nodup_append.1 hLd
  have haL1 : a ∉ L1 := fun hx => hLd'.2.2 a hx a List.mem_cons_self rfl
  have haL2 : a ∉ L2 := (List.nodup_cons.1 hLd'.2.1).1
  have hbM2 : b ∉ M2 := (List.nodup_cons.1 hMd).1
  have sw : ∀ k, k ≠ a → k ≠ b → swp nx a b k = nx k := fun k x y => by unfold swp; rw [upd_other _ _ y, upd_other _ _ x]
  have swa : swp nx a b a = nx b := by unfold swp; rw [upd_other _ _ hab, upd_same]
  have swb : swp nx a b b = nx a := by unfold swp; rw [upd_same]
  have g1 : Pth (swp nx a b) i L1 a := h1.same fun k hk => sw k (fun e => haL1 (e ▸ hk)) fun e => hdis k (by simp [hk]) (by rw [e]; exact List.mem_cons_self)
  have g3 : Pth (swp nx a b) (nx a) L2 i := h3.same fun k hk => sw k (fun e => haL2 (e ▸ hk)) fun e => hdis k (by simp [hk]) (by rw [e]; exact List.mem_cons_self)
  have g2 : Pth (swp nx a b) (nx b) M2 b := hp.same fun k hk => sw k (fun e => hdis a (by simp) (by rw [e] at hk; exact List.mem_cons_of_mem _ hk)) fun e => hbM2 (e ▸ hk)
  have ga : Pth (swp nx a b) a [a] (nx b) := by
    refine .cons ?_
    rw [swa]; exact .nil _
  have gb : Pth (swp nx a b) b [b] (nx a) := by
    refine .cons ?_
    rw [swb]; exact .nil _
  refine ⟨L1 ++ ([a] ++ (M2 ++ ([b] ++ L2))), g1.app (ga.app (g2.app (gb.app g3))), by simp, ?_, fun j => ?_⟩
  · have hperm : (L1 ++ ([a] ++ (M2 ++ ([b] ++ L2)))).Perm ((L1 ++ a :: L2) ++ (b :: M2)) := by
      refine (List.Perm.append_left L1 ?_).trans (by rw [List.append_assoc])
      show (a :: (M2 ++ (b :: L2))).Perm (a :: (L2 ++ (b :: M2)))
      refine List.Perm.cons _ ?_
      refine List.perm_append_comm.trans ?_
      show (b :: (L2 ++ M2)).Perm _
      exact List.perm_middle.symm
    refine (List.Perm.nodup_iff hperm).2 ?_
    rw [List.nodup_append]
    exact ⟨hLd, hMd, fun x hx y hy e => hdis x hx (e ▸ hy)⟩
  · have e : (j ∈ L1 ++ ([a] ++ (M2 ++ ([b] ++ L2)))) ↔ (j ∈ L1 ++ a :: L2 ∨ j ∈ b :: M2) := by
      simp only [List.mem_append, List.mem_cons, List.not_mem_nil, or_false]
      constructor
      · rintro (h | h | h | h | h)
        · exact .inl (.inl h)
        · exact .inl (.inr (.inl h))
        · exact .inr (.inr h)
        · exact .inr (.inl h)
        · exact .inl (.inr (.inr h))
      · rintro ((h | h | h) | h | h)
        · exact .inl h
        · exact .inr (.inl h)
        · exact .inr (.inr (.inr (.inr h)))
        · exact .inr (.inr (.inr (.inl h)))
        · exact .inr (.inr (.inl h))
    rw [e, hLm, hMm, paint_eq, hia]
    constructor
    · rintro (⟨h, e⟩ | ⟨h, e⟩)
      · exact ⟨h, .inl e⟩
      · exact ⟨h, .inr ⟨.inr e, .inl rfl⟩⟩
    · rintro ⟨h, e | ⟨e | e, _⟩⟩
      · exact .inl ⟨h, e⟩
      · exact .inl ⟨h, e⟩
      · exact .inr ⟨h, e⟩
theorem Rings.join {n : Nat} {nx col : Nat → Nat} (h : Rings n nx col) {a b : Nat} (ha : a < n) (hb : b < n) (hne : col a ≠ col b) : Rings n (swp nx a b) (paint col a b) := by
  intro i hi
  by_cases h1 : col i = col a
  · exact ring_join h hi ha hb hne h1
  · by_cases h2 : col i = col b
    · obtain ⟨L, hL1, hL2, hL3, hL4⟩ := ring_join h hi hb ha (Ne.symm hne) h2
      rw [swp_comm nx (fun e => hne (by rw [e]))]
      refine ⟨L, hL1, hL2, hL3, fun j => (hL4 j).trans ?_⟩
      rw [paint_eq, paint_eq]
      constructor <;> (rintro ⟨hj, e | ⟨e, f⟩⟩; exact ⟨hj, .inl e⟩; exact ⟨hj, .inr ⟨e.symm, f.symm⟩⟩)
    · obtain ⟨L, hL1, hL2, hL3, hL4⟩ := h i hi
      refine ⟨L, hL1.same fun k hk => ?_, hL2, hL3, fun j => ?_⟩
      · have e := ((hL4 k).1 hk).2
        unfold swp
        rw [upd_other _ _ (fun x => h2 (by rw [← e, x])), upd_other _ _ (fun x => h1 (by rw [← e, x]))]
      · rw [hL4 j, paint_eq]
        constructor
        · rintro ⟨hj, e⟩; exact ⟨hj, .inl e⟩
        · rintro ⟨hj, e | ⟨_, e | e⟩⟩
          · exact ⟨hj, e⟩
          · exact absurd e h1
          · exact absurd e h2
end Go.Proofs.Ytamieophdnnbnaa.Un
