/- Texts of one proof, one behind the other. -/
import Derived.Test.YtcaclgaaaanfnaaMgUnifyNone15
/- Equations between nodes as classes: what follows of them, and what joining one pair behind the other comes to. Nothing here speaks of the program. -/
namespace Go.Proofs.Ytcaclgaaaanfnaa
/-- A node's parts. -/
abbrev Gn.parts (x : Gn) : List Nat := x.2.2.2
/-- What is in one class by equations. -/
inductive Cl (G : List Gn) (E : List (Nat × Nat)) : Nat → Nat → Prop where
  | eq {a b : Nat} (h : (a, b) ∈ E) : Cl G E a b
  | refl (a : Nat) : Cl G E a a
  | symm {a b : Nat} (h : Cl G E a b) : Cl G E b a
  | trans {a b d : Nat} (h : Cl G E a b) (k : Cl G E b d) : Cl G E a d
  | part {x y a b j : Nat} {p q : Gn} (h : Cl G E x y) (hp : G[x]? = some p) (hq : G[y]? = some q) (p1 : p.1 ≠ 1) (q1 : q.1 ≠ 1) (hk : p.1 = q.1) (hl : p.2.2.2.length = q.2.2.2.length) (ha : p.2.2.2[j]? = some a) (hb : q.2.2.2[j]? = some b) : Cl G E a b
/-- Two of one class that are no variables are of one kind, with as many parts. -/
def Fit (p q : Gn) : Prop := p.1 = q.1 ∧ p.2.2.2.length = q.2.2.2.length
/-- They clash. -/
def Clash (G : List Gn) (E : List (Nat × Nat)) : Prop := ∃ x y p q, Cl G E x y ∧ G[x]? = some p ∧ G[y]? = some q ∧ p.1 ≠ 1 ∧ q.1 ≠ 1 ∧ ¬ Fit p q
theorem Cl.more {G H : List Gn} {E F : List (Nat × Nat)} (hG : ∀ (i : Nat) (p : Gn), G[i]? = some p → H[i]? = some p) (hE : ∀ e, e ∈ E → e ∈ F) {a b : Nat} (h : Cl G E a b) : Cl H F a b := by
  induction h with
  | eq h => exact .eq (hE _ h)
  | refl a => exact .refl a
  | symm _ ih => exact .symm ih
  | trans _ _ i1 i2 => exact .trans i1 i2
  | part _ hp hq p1 q1 hk hl ha hb ih => exact .part ih (hG _ _ hp) (hG _ _ hq) p1 q1 hk hl ha hb
theorem Clash.more {G H : List Gn} {E F : List (Nat × Nat)} (hG : ∀ (i : Nat) (p : Gn), G[i]? = some p → H[i]? = some p) (hE : ∀ e, e ∈ E → e ∈ F) (h : Clash G E) : Clash H F := by
  obtain ⟨x, y, p, q, h1, h2, h3, h4⟩ := h
  exact ⟨x, y, p, q, h1.more hG hE, hG _ _ h2, hG _ _ h3, h4⟩
/-- What is in one class, or is to be. -/
inductive Gen (n : Nat) (c : Nat → Nat) (T : List (Nat × Nat)) : Nat → Nat → Prop where
  | col {a b : Nat} (ha : a < n) (hb : b < n) (h : c a = c b) : Gen n c T a b
  | todo {a b : Nat} (h : (a, b) ∈ T) : Gen n c T a b
  | symm {a b : Nat} (h : Gen n c T a b) : Gen n c T b a
  | trans {a b d : Nat} (h : Gen n c T a b) (k : Gen n c T b d) : Gen n c T a d
theorem Gen.none {n : Nat} {c : Nat → Nat} {a b : Nat} (h : Gen n c [] a b) : a < n ∧ b < n ∧ c a = c b := by
  induction h with
  | col ha hb h => exact ⟨ha, hb, h⟩
  | todo h => cases h
  | symm _ ih => exact ⟨ih.2.1, ih.1, ih.2.2.symm⟩
  | trans _ _ i1 i2 => exact ⟨i1.1, i2.2.1, i1.2.2.trans i2.2.2⟩
theorem Gen.more {n m : Nat} {c d : Nat → Nat} {T U : List (Nat × Nat)} (hc : ∀ a b, a < n → b < n → c a = c b → Gen m d U a b) (hT : ∀ a b, (a, b) ∈ T → Gen m d U a b) {a b : Nat} (h : Gen n c T a b) : Gen m d U a b := by
  induction h with
  | col ha hb h => exact hc _ _ ha hb h
  | todo h => exact hT _ _ h
  | symm _ ih => exact .symm ih
  | trans _ _ i1 i2 => exact .trans i1 i2
/-- Between two pairs: what is in one class belongs there, and what belongs there is, or is to be. -/
structure Jn (G : List Gn) (c : Nat → Nat) (E T : List (Nat × Nat)) : Prop where
  sound : ∀ i j, i < G.length → j < G.length → c i = c j → Cl G E i j
  todo : ∀ a b, (a, b) ∈ T → a < G.length ∧ b < G.length ∧ Cl G E a b
  eqs : ∀ a b, (a, b) ∈ E → Gen G.length c T a b
  fit : ∀ (x y : Nat) (p q : Gn), G[x]? = some p → G[y]? = some q → c x = c y → p.1 ≠ 1 → q.1 ≠ 1 → Fit p q ∧ ∀ (j a b : Nat), p.2.2.2[j]? = some a → q.2.2.2[j]? = some b → Gen G.length c T a b
  parts : ∀ (x : Nat) (p : Gn), G[x]? = some p → ∀ a ∈ p.2.2.2, a < G.length
theorem lt_of_get {α : Type} {L : List α} {i : Nat} {x : α} (h : L[i]? = some x) : i < L.length := (List.getElem?_eq_some_iff.1 h).1
/-- Where nothing is left to do, the classes are these. -/
theorem Jn.done {G : List Gn} {c : Nat → Nat} {E : List (Nat × Nat)} (h : Jn G c E []) {a b : Nat} : Cl G E a b ↔ a = b ∨ (a < G.length ∧ b < G.length ∧ c a = c b) := by
  constructor
  · intro k
    induction k with
    | eq e => exact .inr (h.eqs _ _ e).none
    | refl a => exact .inl rfl
    | symm _ ih => exact ih.elim (fun e => .inl e.symm) fun e => .inr ⟨e.2.1, e.1, e.2.2.symm⟩
    | trans _ _ i1 i2 =>
      rcases i1 with rfl | i1
      · exact i2
      · rcases i2 with rfl | i2
        · exact .inr i1
        · exact .inr ⟨i1.1, i2.2.1, i1.2.2.trans i2.2.2⟩
    | part _ hp hq p1 q1 _ _ ha hb ih =>
      rcases ih with rfl | ih
      · rw [hp] at hq
        cases hq
        rw [ha] at hb
        exact .inl (Option.some.inj hb)
      · exact .inr ((h.fit _ _ _ _ hp hq ih.2.2 p1 q1).2 _ _ _ ha hb).none
  · rintro (rfl | ⟨h1, h2, h3⟩)
    · exact .refl _
    · exact h.sound _ _ h1 h2 h3
theorem Jn.noClash {G : List Gn} {c : Nat → Nat} {E : List (Nat × Nat)} (h : Jn G c E []) : ¬ Clash G E := by
  rintro ⟨x, y, p, q, h1, hp, hq, p1, q1, hf⟩
  rcases h.done.1 h1 with rfl | ⟨_, _, h3⟩
  · rw [hp] at hq
    cases hq
    exact hf ⟨rfl, rfl⟩
  · exact hf (h.fit _ _ _ _ hp hq h3 p1 q1).1
/-- A pair that is in one class already. -/
theorem Jn.skip {G : List Gn} {c : Nat → Nat} {E T U : List (Nat × Nat)} {a b : Nat} (h : Jn G c E U) (hU : ∀ e, e ∈ U ↔ e = (a, b) ∨ e ∈ T) (hab : c a = c b) : Jn G c E T := by
  obtain ⟨ha, hb, _⟩ := h.todo a b ((hU _).2 (.inl rfl))
  have hg : ∀ {x y : Nat}, Gen G.length c U x y → Gen G.length c T x y := fun hx => hx.more (fun _ _ x1 x2 x3 => .col x1 x2 x3) fun x y hxy => by
    rcases (hU _).1 hxy with e | e
    · cases e; exact .col ha hb hab
    · exact .todo e
  exact ⟨h.sound, fun x y hxy => h.todo x y ((hU _).2 (.inr hxy)), fun x y hxy => hg (h.eqs x y hxy), fun x y p q hp hq hc p1 q1 => ⟨(h.fit x y p q hp hq hc p1 q1).1, fun j u v hu hv => hg ((h.fit x y p q hp hq hc p1 q1).2 j u v hu hv)⟩, h.parts⟩
/-- A pair whose classes become one: what more is to be done (the parts of one that is no variable of each), if both have such. -/
theorem Jn.join {G : List Gn} {c d : Nat → Nat} {E T U V : List (Nat × Nat)} {a b : Nat} (h : Jn G c E U) (hU : ∀ e, e ∈ U ↔ e = (a, b) ∨ e ∈ T)
    (hd : ∀ i j, d i = d j ↔ (c i = c j ∨ (c i = c a ∨ c i = c b) ∧ (c j = c a ∨ c j = c b)))
    (hT : ∀ e, e ∈ T → e ∈ V)
    (hV : ∀ x y, (x, y) ∈ V → (x, y) ∈ T ∨ (x < G.length ∧ y < G.length ∧ Cl G E x y))
    (hab : ∀ (x y : Nat) (p q : Gn), G[x]? = some p → G[y]? = some q → c x = c a → c y = c b → p.1 ≠ 1 → q.1 ≠ 1 → Fit p q ∧ ∀ (j u v : Nat), p.2.2.2[j]? = some u → q.2.2.2[j]? = some v → Gen G.length d V u v) : Jn G d E V := by
  obtain ⟨ha, hb, hCab⟩ := h.todo a b ((hU _).2 (.inl rfl))
  have hdab : d a = d b := (hd a b).2 (.inr ⟨.inl rfl, .inr rfl⟩)
  have hg : ∀ {x y : Nat}, Gen G.length c U x y → Gen G.length d V x y := fun hx => hx.more (fun x y x1 x2 x3 => .col x1 x2 ((hd x y).2 (.inl x3))) fun x y hxy => by
    rcases (hU _).1 hxy with e | e
    · cases e; exact .col ha hb hdab
    · exact .todo (hT _ e)
  have hs : ∀ i, i < G.length → (c i = c a ∨ c i = c b) → Cl G E i a := fun i hi e => by
    rcases e with e | e
    · exact h.sound i a hi ha e
    · exact (h.sound i b hi hb e).trans hCab.symm
  refine ⟨fun i j hi hj e => ?_, fun x y hxy => ?_, fun x y hxy => hg (h.eqs x y hxy), fun x y p q hp hq hc p1 q1 => ?_, h.parts⟩
  · rcases (hd i j).1 e with e | ⟨e1, e2⟩
    · exact h.sound i j hi hj e
    · exact (hs i hi e1).trans (hs j hj e2).symm
  · rcases hV x y hxy with e | e
    · exact h.todo x y ((hU _).2 (.inr e))
    · exact e
  · rcases (hd x y).1 hc with e | ⟨e1, e2⟩
    · exact ⟨(h.fit x y p q hp hq e p1 q1).1, fun j u v hu hv => hg ((h.fit x y p q hp hq e p1 q1).2 j u v hu hv)⟩
    · rcases e1 with e1 | e1
      · rcases e2 with e2 | e2
        · exact ⟨(h.fit x y p q hp hq (e1.trans e2.symm) p1 q1).1, fun j u v hu hv => hg ((h.fit x y p q hp hq (e1.trans e2.symm) p1 q1).2 j u v hu hv)⟩
        · exact hab x y p q hp hq e1 e2 p1 q1
      · rcases e2 with e2 | e2
        · obtain ⟨f1, f2⟩ := hab y x q p hq hp e2 e1 q1 p1
          exact ⟨⟨f1.1.symm, f1.2.symm⟩, fun j u v hu hv => (f2 j v u hv hu).symm⟩
        · exact ⟨(h.fit x y p q hp hq (e1.trans e2.symm) p1 q1).1, fun j u v hu hv => hg ((h.fit x y p q hp hq (e1.trans e2.symm) p1 q1).2 j u v hu hv)⟩
/-- Of a class one node that is no variable, if it has such. -/
structure Md (G : List Gn) (c : Nat → Nat) (m : Nat → Option Nat) : Prop where
  col : ∀ i j, i < G.length → j < G.length → c i = c j → m i = m j
  none : ∀ (i : Nat) (p : Gn), G[i]? = some p → m i = none → p.1 = 1
  some : ∀ i k, i < G.length → m i = some k → ∃ q : Gn, G[k]? = some q ∧ q.1 ≠ 1 ∧ c k = c i
/-- What more is to be done where two classes become one. -/
def pairs (l r : List Nat) : List (Nat × Nat) := l.zip r
theorem Md.join {G : List Gn} {c d : Nat → Nat} {m : Nat → Option Nat} (h : Md G c m) {a b : Nat} (ha : a < G.length) (hb : b < G.length)
    (hd : ∀ i j, d i = d j ↔ (c i = c j ∨ (c i = c a ∨ c i = c b) ∧ (c j = c a ∨ c j = c b))) : Md G d fun i => if c i = c a ∨ c i = c b then (m a).or (m b) else m i := by
  refine ⟨fun i j hi hj e => ?_, fun i p hp e => ?_, fun i k hi e => ?_⟩
  · rcases (hd i j).1 e with e | ⟨e1, e2⟩
    · simp only [e]
      split
      · rfl
      · exact h.col i j hi hj e
    · simp only [e1, e2, if_true]
  · have hi := lt_of_get hp
    by_cases hc : c i = c a ∨ c i = c b
    · simp only [hc, if_true, Option.or_eq_none_iff] at e
      rcases hc with hc | hc
      · exact h.none i p hp ((h.col i a hi ha hc).trans e.1)
      · exact h.none i p hp ((h.col i b hi hb hc).trans e.2)
    · simp only [hc, if_false] at e
      exact h.none i p hp e
  · by_cases hc : c i = c a ∨ c i = c b
    · simp only [hc, if_true, Option.or_eq_some_iff] at e
      rcases e with e | ⟨_, e⟩
      · obtain ⟨q, h1, h2, h3⟩ := h.some a k ha e
        exact ⟨q, h1, h2, (hd k i).2 (.inr ⟨.inl h3, hc⟩)⟩
      · obtain ⟨q, h1, h2, h3⟩ := h.some b k hb e
        exact ⟨q, h1, h2, (hd k i).2 (.inr ⟨.inr h3, hc⟩)⟩
    · simp only [hc, if_false] at e
      obtain ⟨q, h1, h2, h3⟩ := h.some i k hi e
      exact ⟨q, h1, h2, (hd k i).2 (.inl h3)⟩
theorem mem_pairs {l r : List Nat} {x y : Nat} : (x, y) ∈ pairs l r ↔ ∃ j : Nat, l[j]? = some x ∧ r[j]? = some y := by
  unfold pairs
  constructor
  · intro h
    obtain ⟨j, hj⟩ := List.mem_iff_getElem?.1 h
    rw [List.getElem?_zip_eq_some] at hj
    exact ⟨j, hj⟩
  · rintro ⟨j, h1, h2⟩
    exact List.mem_iff_getElem?.2 ⟨j, List.getElem?_zip_eq_some.2 ⟨h1, h2⟩⟩
/-- One round: one of the two has nothing but variables. -/
theorem Jn.joinVar {G : List Gn} {c d : Nat → Nat} {m : Nat → Option Nat} {E T U : List (Nat × Nat)} {a b : Nat} (h : Jn G c E U) (hM : Md G c m) (hU : ∀ e, e ∈ U ↔ e = (a, b) ∨ e ∈ T)
    (hd : ∀ i j, d i = d j ↔ (c i = c j ∨ (c i = c a ∨ c i = c b) ∧ (c j = c a ∨ c j = c b))) (hm : m a = none ∨ m b = none) : Jn G d E T := by
  obtain ⟨ha, hb, _⟩ := h.todo a b ((hU _).2 (.inl rfl))
  refine h.join hU hd (fun _ h => h) (fun _ _ h => .inl h) fun x y p q hp hq hx hy p1 q1 => ?_
  rcases hm with hm | hm
  · exact absurd (hM.none x p hp ((hM.col x a (lt_of_get hp) ha hx).trans hm)) p1
  · exact absurd (hM.none y q hq ((hM.col y b (lt_of_get hq) hb hy).trans hm)) q1
/-- One round: both have one that is no variable, and these fit. -/
theorem Jn.joinBoth {G : List Gn} {c d : Nat → Nat} {m : Nat → Option Nat} {E T U V : List (Nat × Nat)} {a b k l : Nat} {p q : Gn} (h : Jn G c E U) (hM : Md G c m) (hU : ∀ e, e ∈ U ↔ e = (a, b) ∨ e ∈ T)
    (hd : ∀ i j, d i = d j ↔ (c i = c j ∨ (c i = c a ∨ c i = c b) ∧ (c j = c a ∨ c j = c b))) (hk : m a = some k) (hl : m b = some l) (hp : G[k]? = some p) (hq : G[l]? = some q) (hf : Fit p q)
    (hV : ∀ e, e ∈ V ↔ e ∈ T ∨ e ∈ pairs p.2.2.2 q.2.2.2) : Jn G d E V := by
  obtain ⟨ha, hb, hC⟩ := h.todo a b ((hU _).2 (.inl rfl))
  obtain ⟨p', hp', p1, hka⟩ := hM.some a k ha hk
  obtain ⟨q', hq', q1, hlb⟩ := hM.some b l hb hl
  rw [hp] at hp'; cases hp'
  rw [hq] at hq'; cases hq'
  have hkl : Cl G E k l := ((h.sound k a (lt_of_get hp) ha hka).trans hC).trans (h.sound l b (lt_of_get hq) hb hlb).symm
  have hg : ∀ {x y : Nat}, Gen G.length c U x y → Gen G.length d V x y := fun hx => hx.more (fun x y x1 x2 x3 => .col x1 x2 ((hd x y).2 (.inl x3))) fun x y hxy => by
    rcases (hU _).1 hxy with e | e
    · cases e; exact .col ha hb ((hd a b).2 (.inr ⟨.inl rfl, .inr rfl⟩))
    · exact .todo ((hV _).2 (.inl e))
  refine h.join hU hd (fun _ h => (hV _).2 (.inl h)) (fun x y hxy => ?_) fun x y p2 q2 hp2 hq2 hx hy p21 q21 => ?_
  · refine ((hV _).1 hxy).imp id fun hpq => ?_
    obtain ⟨j, h1, h2⟩ := mem_pairs.1 hpq
    exact ⟨h.parts k p hp x (List.mem_of_getElem? h1), h.parts l q hq y (List.mem_of_getElem? h2), .part hkl hp hq p1 q1 hf.1 hf.2 h1 h2⟩
  · obtain ⟨f1, f2⟩ := h.fit x k p2 p hp2 hp (hx.trans hka.symm) p21 p1
    obtain ⟨g1, g2⟩ := h.fit y l q2 q hq2 hq (hy.trans hlb.symm) q21 q1
    refine ⟨⟨f1.1.trans (hf.1.trans g1.1.symm), f1.2.trans (hf.2.trans g1.2.symm)⟩, fun j u v hu hv => ?_⟩
    have hj := lt_of_get hu
    obtain ⟨x1, hx1⟩ : ∃ x1, p.2.2.2[j]? = some x1 := ⟨_, List.getElem?_eq_getElem (by have := f1.2; omega)⟩
    obtain ⟨y1, hy1⟩ : ∃ y1, q.2.2.2[j]? = some y1 := ⟨_, List.getElem?_eq_getElem (by have := f1.2; have := hf.2; omega)⟩
    exact ((hg (f2 j u x1 hu hx1)).trans (.todo ((hV _).2 (.inr (mem_pairs.2 ⟨j, hx1, hy1⟩))))).trans (hg (g2 j v y1 hv hy1)).symm
/-- One round: they don't fit. -/
theorem Jn.clash {G : List Gn} {c : Nat → Nat} {m : Nat → Option Nat} {E U : List (Nat × Nat)} {a b k l : Nat} {p q : Gn} (h : Jn G c E U) (hM : Md G c m) (hU : (a, b) ∈ U)
    (hk : m a = some k) (hl : m b = some l) (hp : G[k]? = some p) (hq : G[l]? = some q) (hf : ¬ Fit p q) : Clash G E := by
  obtain ⟨ha, hb, hC⟩ := h.todo a b hU
  obtain ⟨p', hp', p1, hka⟩ := hM.some a k ha hk
  obtain ⟨q', hq', q1, hlb⟩ := hM.some b l hb hl
  rw [hp] at hp'; cases hp'
  rw [hq] at hq'; cases hq'
  exact ⟨k, l, p, q, ((h.sound k a (lt_of_get hp) ha hka).trans hC).trans (h.sound l b (lt_of_get hq) hb hlb).symm, hp, hq, p1, q1, hf⟩
/-- More nodes, each in a class of its own, and one equation more. -/
theorem Jn.grow {G A : List Gn} {c d : Nat → Nat} {E : List (Nat × Nat)} {a b : Nat} (h : Jn G c E []) (hd : ∀ i j, i < (G ++ A).length → j < (G ++ A).length → (d i = d j ↔ i = j ∨ (i < G.length ∧ j < G.length ∧ c i = c j)))
    (ha : a < (G ++ A).length) (hb : b < (G ++ A).length) (hp : ∀ (x : Nat) (p : Gn), (G ++ A)[x]? = some p → ∀ u ∈ p.2.2.2, u < (G ++ A).length) : Jn (G ++ A) d (E ++ [(a, b)]) [(a, b)] := by
  have hG : ∀ (i : Nat) (p : Gn), G[i]? = some p → (G ++ A)[i]? = some p := fun i p hi => (List.getElem?_append_left (lt_of_get hi)).trans hi
  have hE : ∀ e, e ∈ E → e ∈ E ++ [(a, b)] := fun e he => List.mem_append_left _ he
  have hlen : G.length ≤ (G ++ A).length := by simp
  have hg : ∀ {x y : Nat}, Gen G.length c [] x y → Gen (G ++ A).length d [(a, b)] x y := fun hx => by
    obtain ⟨h1, h2, h3⟩ := hx.none
    exact .col (by omega) (by omega) ((hd _ _ (by omega) (by omega)).2 (.inr ⟨h1, h2, h3⟩))
  refine ⟨fun i j hi hj e => ?_, fun x y hxy => ?_, fun x y hxy => ?_, fun x y p q hx hy e p1 q1 => ?_, hp⟩
  · rcases (hd i j hi hj).1 e with rfl | ⟨h1, h2, h3⟩
    · exact .refl _
    · exact (h.sound i j h1 h2 h3).more hG hE
  · simp only [List.mem_cons, List.not_mem_nil, or_false, Prod.mk.injEq] at hxy
    obtain ⟨rfl, rfl⟩ := hxy
    exact ⟨ha, hb, .eq (by simp)⟩
  · rcases List.mem_append.1 hxy with e | e
    · exact hg (h.eqs x y e)
    · exact .todo e
  · rcases (hd x y (lt_of_get hx) (lt_of_get hy)).1 e with rfl | ⟨h1, h2, h3⟩
    · rw [hx] at hy; cases hy
      refine ⟨⟨rfl, rfl⟩, fun j u v hu hv => ?_⟩
      rw [hu] at hv; cases hv
      have := hp x p hx u (List.mem_of_getElem? hu)
      exact .col this this rfl
    · have hx' : G[x]? = some p := by rw [List.getElem?_append_left h1] at hx; exact hx
      have hy' : G[y]? = some q := by rw [List.getElem?_append_left h2] at hy; exact hy
      obtain ⟨f1, f2⟩ := h.fit x y p q hx' hy' h3 p1 q1
      exact ⟨f1, fun j u v hu hv => hg (f2 j u v hu hv)⟩
end Go.Proofs.Ytcaclgaaaanfnaa
