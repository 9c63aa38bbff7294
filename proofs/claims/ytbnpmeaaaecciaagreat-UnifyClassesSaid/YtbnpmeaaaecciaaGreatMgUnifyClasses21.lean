/- Texts of one proof, one behind the other. -/
import Derived.Test.YtbnpmeaaaecciaaGreatMgUnifyClasses8
import Derived.Test.YtbnpmeaaaecciaaGreatMgUnifyClasses20
import Derived.Test.YtbnpmeaaaecciaaGreatMgUnifyClasses11
/- Equations between nodes as classes: what follows of them, and what joining one pair behind the other comes to. Nothing here speaks of the program. -/
namespace Go.Proofs.YtbnpmeaaaecciaaGreat
/-- A node's parts. -/
abbrev Gn.parts (x : Gn) : List Nat := x.2.2.2
/-- What is in one class by equations. -/
inductive Cl (G : List Gn) (E : List (Nat × Nat)) : Nat → Nat → Prop where
  | eq {a b : Nat} (h : (a, b) ∈ E) : Cl G E a b
  | refl (a : Nat) : Cl G E a a
  | symm {a b : Nat} (h : Cl G E a b) : Cl G E b a
  | trans {a b d : Nat} (h : Cl G E a b) (k : Cl G E b d) : Cl G E a d
  | part {x y a b j : Nat} {p q : Gn} (h : Cl G E x y) (hp : G[x]? = some p) (hq : G[y]? = some q) (p1 : p.1 ≠ 1) (q1 : q.1 ≠ 1) (hk : p.1 = q.1) (hl : p.2.2.2.length = q.2.2.2.length) (ha : p.2.2.2[j]? = some a) (hb : q.2.2.2[j]? = some b) : Cl G E a b
/-- Two of one class that are no variables are of one kind, with as many parts. -/
def Fit (p q : Gn) : Prop := p.1 = q.1 ∧ p.2.2.2.length = q.2.2.2.length
/-- They clash. -/
def Clash (G : List Gn) (E : List (Nat × Nat)) : Prop := ∃ x y p q, Cl G E x y ∧ G[x]? = some p ∧ G[y]? = some q ∧ p.1 ≠ 1 ∧ q.1 ≠ 1 ∧ ¬ Fit p q
theorem Cl.more {G H : List Gn} {E F : List (Nat × Nat)} (hG : ∀ (i : Nat) (p : Gn), G[i]? = some p → H[i]? = some p) (hE : ∀ e, e ∈ E → e ∈ F) {a b : Nat} (h : Cl G E a b) : Cl H F a b := by
  induction h with
  | eq h => exact .eq (hE _ h)
  | refl a => exact .refl a
  | symm _ ih => exact .symm ih
  | trans _ _ i1 i2 => exact .trans i1 i2
  | part _ hp hq p1 q1 hk hl ha hb ih => exact .part ih (hG _ _ hp) (hG _ _ hq) p1 q1 hk hl ha hb
theorem Clash.more {G H : List Gn} {E F : List (Nat × Nat)} (hG : ∀ (i : Nat) (p : Gn), G[i]? = some p → H[i]? = some p) (hE : ∀ e, e ∈ E → e ∈ F) (h : Clash G E) : Clash H F := by
  obtain ⟨x, y, p, q, h1, h2, h3, h4⟩ := h
  exact ⟨x, y, p, q, h1.more hG hE, hG _ _ h2, hG _ _ h3, h4⟩
/-- What is in one class, or is to be. -/
inductive Gen (n : Nat) (c : Nat → Nat) (T : List (Nat × Nat)) : Nat → Nat → Prop where
  | col {a b : Nat} (ha : a < n) (hb : b < n) (h : c a = c b) : Gen n c T a b
  | todo {a b : Nat} (h : (a, b) ∈ T) : Gen n c T a b
  | symm {a b : Nat} (h : Gen n c T a b) : Gen n c T b a
  | trans {a b d : Nat} (h : Gen n c T a b) (k : Gen n c T b d) : Gen n c T a d
theorem Gen.none {n : Nat} {c : Nat → Nat} {a b : Nat} (h : Gen n c [] a b) : a < n ∧ b < n ∧ c a = c b := by
  induction h with
  | col ha hb h => exact ⟨ha, hb, h⟩
  | todo h => cases h
  | symm _ ih => exact ⟨ih.2.1, ih.1, ih.2.2.symm⟩
  | trans _ _ i1 i2 => exact ⟨i1.1, i2.2.1, i1.2.2.trans i2.2.2⟩
theorem Gen.more {n m : Nat} {c d : Nat → Nat} {T U : List (Nat × Nat)} (hc : ∀ a b, a < n → b < n → c a = c b → Gen m d U a b) (hT : ∀ a b, (a, b) ∈ T → Gen m d U a b) {a b : Nat} (h : Gen n c T a b) : Gen m d U a b := by
  induction h with
  | col ha hb h => exact hc _ _ ha hb h
  | todo h => exact hT _ _ h
  | symm _ ih => exact .symm ih
  | trans _ _ i1 i2 => exact .trans i1 i2
/-- Between two pairs: what is in one class belongs there, and what belongs there is, or is to be. -/
structure Jn (G : List Gn) (c : Nat → Nat) (E T : List (Nat × Nat)) : Prop where
  sound : ∀ i j, i < G.length → j < G.length → c i = c j → Cl G E i j
  todo : ∀ a b, (a, b) ∈ T → a < G.length ∧ b < G.length ∧ Cl G E a b
  eqs : ∀ a b, (a, b) ∈ E → Gen G.length c T a b
  fit : ∀ (x y : Nat) (p q : Gn), G[x]? = some p → G[y]? = some q → c x = c y → p.1 ≠ 1 → q.1 ≠ 1 → Fit p q ∧ ∀ (j a b : Nat), p.2.2.2[j]? = some a → q.2.2.2[j]? = some b → Gen G.length c T a b
  parts : ∀ (x : Nat) (p : Gn), G[x]? = some p → ∀ a ∈ p.2.2.2, a < G.length
theorem lt_of_get {α : Type} {L : List α} {i : Nat} {x : α} (h : L[i]? = some x) : i < L.length := (List.getElem?_eq_some_iff.1 h).1
/-- Where nothing is left to do, the classes are these. -/
theorem Jn.done {G : List Gn} {c : Nat → Nat} {E : List (Nat × Nat)} (h : Jn G c E []) {a b : Nat} : Cl G E a b ↔ a = b ∨ (a < G.length ∧ b < G.length ∧ c a = c b) := by
  constructor
  · intro k
    induction k with
    | eq e => exact .inr (h.eqs _ _ e).none
    | refl a => exact .inl rfl
    | symm _ ih => exact ih.elim (fun e => .inl e.symm) fun e => .inr ⟨e.2.1, e.1, e.2.2.symm⟩
    | trans _ _ i1 i2 =>
      rcases i1 with rfl | i1
      · exact i2
      · rcases i2 with rfl | i2
        · exact .inr i1
        · exact .inr ⟨i1.1, i2.2.1, i1.2.2.trans i2.2.2⟩
    | part _ hp hq p1 q1 _ _ ha hb ih =>
      rcases ih with rfl | ih
      · rw [hp] at hq
        cases hq
        rw [ha] at hb
        exact .inl (Option.some.inj hb)
      · exact .inr ((h.fit _ _ _ _ hp hq ih.2.2 p1 q1).2 _ _ _ ha hb).none
  · rintro (rfl | ⟨h1, h2, h3⟩)
    · exact .refl _
    · exact h.sound _ _ h1 h2 h3
theorem Jn.noClash {G : List Gn} {c : Nat → Nat} {E : List (Nat × Nat)} (h : Jn G c E []) : ¬ Clash G E := by
  rintro ⟨x, y, p, q, h1, hp, hq, p1, q1, hf⟩
  rcases h.done.1 h1 with rfl | ⟨_, _, h3⟩
  · rw [hp] at hq
    cases hq
    exact hf ⟨rfl, rfl⟩
  · exact hf (h.fit _ _ _ _ hp hq h3 p1 q1).1
/-- A pair that is in one class already. -/
theorem Jn.skip {G : List Gn} {c : Nat → Nat} {E T U : List (Nat × Nat)} {a b : Nat} (h : Jn G c E U) (hU : ∀ e, e ∈ U ↔ e = (a, b) ∨ e ∈ T) (hab : c a = c b) : Jn G c E T := by
  obtain ⟨ha, hb, _⟩ := h.todo a b ((hU _).2 (.inl rfl))
  have hg : ∀ {x y : Nat}, Gen G.length c U x y → Gen G.length c T x y := fun hx => hx.more (fun _ _ x1 x2 x3 => .col x1 x2 x3) fun x y hxy => by
    rcases (hU _).1 hxy with e | e
    · cases e; exact .col ha hb hab
    · exact .todo e
  exact ⟨h.sound, fun x y hxy => h.todo x y ((hU _).2 (.inr hxy)), fun x y hxy => hg (h.eqs x y hxy), fun x y p q hp hq hc p1 q1 => ⟨(h.fit x y p q hp hq hc p1 q1).1, fun j u v hu hv => hg ((h.fit x y p q hp hq hc p1 q1).2 j u v hu hv)⟩, h.parts⟩
/-- A pair whose classes become one: what more is to be done (the parts of one that is no variable of each), if both have such. -/
theorem Jn.join {G : List Gn} {c d : Nat → Nat} {E T U V : List (Nat × Nat)} {a b : Nat} (h : Jn G c E U) (hU : ∀ e, e ∈ U ↔ e = (a, b) ∨ e ∈ T)
    (hd : ∀ i j, d i = d j ↔ (c i = c j ∨ (c i = c a ∨ c i = c b) ∧ (c j = c a ∨ c j = c b)))
    (hT : ∀ e, e ∈ T → e ∈ V)
    (hV : ∀ x y, (x, y) ∈ V → (x, y) ∈ T ∨ (x < G.length ∧ y < G.length ∧ Cl G E x y))
    (hab : ∀ (x y : Nat) (p q : Gn), G[x]? = some p → G[y]? = some q → c x = c a → c y = c b → p.1 ≠ 1 → q.1 ≠ 1 → Fit p q ∧ ∀ (j u v : Nat), p.2.2.2[j]? = some u → q.2.2.2[j]? = some v → Gen G.length d V u v) : Jn G d E V := by
  obtain ⟨ha, hb, hCab⟩ := h.todo a b ((hU _).2 (.inl rfl))
  have hdab : d a = d b := (hd a b).2 (.inr ⟨.inl rfl, .inr rfl⟩)
  have hg : ∀ {x y : Nat}, Gen G.length c U x y → Gen G.length d V x y := fun hx => hx.more (fun x y x1 x2 x3 => .col x1 x2 ((hd x y).2 (.inl x3))) fun x y hxy => by
    rcases (hU _).1 hxy with e | e
    · cases e; exact .col ha hb hdab
    · exact .todo (hT _ e)
  have hs : ∀ i, i < G.length → (c i = c a ∨ c i = c b) → Cl G E i a := fun i hi e => by
    rcases e with e | e
    · exact h.sound i a hi ha e
    · exact (h.sound i b hi hb e).trans hCab.symm
  refine ⟨fun i j hi hj e => ?_, fun x y hxy => ?_, fun x y hxy => hg (h.eqs x y hxy), fun x y p q hp hq hc p1 q1 => ?_, h.parts⟩
  · rcases (hd i j).1 e with e | ⟨e1, e2⟩
    · exact h.sound i j hi hj e
    · exact (hs i hi e1).trans (hs j hj e2).symm
  · rcases hV x y hxy with e | e
    · exact h.todo x y ((hU _).2 (.inr e))
    · exact e
  · rcases (hd x y).1 hc with e | ⟨e1, e2⟩
    · exact ⟨(h.fit x y p q hp hq e p1 q1).1, fun j u v hu hv => hg ((h.fit x y p q hp hq e p1 q1).2 j u v hu hv)⟩
    · rcases e1 with e1 | e1
      · rcases e2 with e2 | e2
        · exact ⟨(h.fit x y p q hp hq (e1.trans e2.symm) p1 q1).1, fun j u v hu hv => hg ((h.fit x y p q hp hq (e1.trans e2.symm) p1 q1).2 j u v hu hv)⟩
        · exact hab x y p q hp hq e1 e2 p1 q1
      · rcases e2 with e2 | e2
        · obtain ⟨f1, f2⟩ := hab y x q p hq hp e2 e1 q1 p1
          exact ⟨⟨f1.1.symm, f1.2.symm⟩, fun j u v hu hv => (f2 j v u hv hu).symm⟩
        · exact ⟨(h.fit x y p q hp hq (e1.trans e2.symm) p1 q1).1, fun j u v hu hv => hg ((h.fit x y p q hp hq (e1.trans e2.symm) p1 q1).2 j u v hu hv)⟩
/-- Of a class one node that is no variable, if it has such. -/
structure Md (G : List Gn) (c : Nat → Nat) (m : Nat → Option Nat) : Prop where
  col : ∀ i j, i < G.length → j < G.length → c i = c j → m i = m j
  none : ∀ (i : Nat) (p : Gn), G[i]? = some p → m i = none → p.1 = 1
  some : ∀ i k, i < G.length → m i = some k → ∃ q : Gn, G[k]? = some q ∧ q.1 ≠ 1 ∧ c k = c i
/-- What more is to be done where two classes become one. -/
def pairs (l r : List Nat) : List (Nat × Nat) := l.zip r
theorem Md.join {G : List Gn} {c d : Nat → Nat} {m : Nat → Option Nat} (h : Md G c m) {a b : Nat} (ha : a < G.length) (hb : b < G.length)
    (hd : ∀ i j, d i = d j ↔ (c i = c j ∨ (c i = c a ∨ c i = c b) ∧ (c j = c a ∨ c j = c b))) : Md G d fun i => if c i = c a ∨ c i = c b then (m a).or (m b) else m i := by
  refine ⟨fun i j hi hj e => ?_, fun i p hp e => ?_, fun i k hi e => ?_⟩
  · rcases (hd i j).1 e with e | ⟨e1, e2⟩
    · simp only [e]
      split
      · rfl
      · exact h.col i j hi hj e
    · simp only [e1, e2, if_true]
  · have hi := lt_of_get hp
    by_cases hc : c i = c a ∨ c i = c b
    · simp only [hc, if_true, Option.or_eq_none_iff] at e
      rcases hc with hc | hc
      · exact h.none i p hp ((h.col i a hi ha hc).trans e.1)
      · exact h.none i p hp ((h.col i b hi hb hc).trans e.2)
    · simp only [hc, if_false] at e
      exact h.none i p hp e
  · by_cases hc : c i = c a ∨ c i = c b
    · simp only [hc, if_true, Option.or_eq_some_iff] at e
      rcases e with e | ⟨_, e⟩
      · obtain ⟨q, h1, h2, h3⟩ := h.some a k ha e
        exact ⟨q, h1, h2, (hd k i).2 (.inr ⟨.inl h3, hc⟩)⟩
      · obtain ⟨q, h1, h2, h3⟩ := h.some b k hb e
        exact ⟨q, h1, h2, (hd k i).2 (.inr ⟨.inr h3, hc⟩)⟩
    · simp only [hc, if_false] at e
      obtain ⟨q, h1, h2, h3⟩ := h.some i k hi e
      exact ⟨q, h1, h2, (hd k i).2 (.inl h3)⟩
theorem mem_pairs {l r : List Nat} {x y : Nat} : (x, y) ∈ pairs l r ↔ ∃ j : Nat, l[j]? = some x ∧ r[j]? = some y := by
  unfold pairs
  constructor
  · intro h
    obtain ⟨j, hj⟩ := List.mem_iff_getElem?.1 h
    rw [List.getElem?_zip_eq_some] at hj
    exact ⟨j, hj⟩
  · rintro ⟨j, h1, h2⟩
    exact List.mem_iff_getElem?.2 ⟨j, List.getElem?_zip_eq_some.2 ⟨h1, h2⟩⟩
/-- One round: one of the two has nothing but variables. -/
theorem Jn.joinVar {G : List Gn} {c d : Nat → Nat} {m : Nat → Option Nat} {E T U : List (Nat × Nat)} {a b : Nat} (h : Jn G c E U) (hM : Md G c m) (hU : ∀ e, e ∈ U ↔ e = (a, b) ∨ e ∈ T)
    (hd : ∀ i j, d i = d j ↔ (c i = c j ∨ (c i = c a ∨ c i = c b) ∧ (c j = c a ∨ c j = c b))) (hm : m a = none ∨ m b = none) : Jn G d E T := by
  obtain ⟨ha, hb, _⟩ := h.todo a b ((hU _).2 (.inl rfl))
  refine h.join hU hd (fun _ h => h) (fun _ _ h => .inl h) fun x y p q hp hq hx hy p1 q1 => ?_
  rcases hm with hm | hm
  · exact absurd (hM.none x p hp ((hM.col x a (lt_of_get hp) ha hx).trans hm)) p1
  · exact absurd (hM.none y q hq ((hM.col y b (lt_of_get hq) hb hy).trans hm)) q1
/-- One round: both have one that is no variable, and these fit. -/
theorem Jn.joinBoth {G : List Gn} {c d : Nat → Nat} {m : Nat → Option Nat} {E T U V : List (Nat × Nat)} {a b k l : Nat} {p q : Gn} (h : Jn G c E U) (hM : Md G c m) (hU : ∀ e, e ∈ U ↔ e = (a, b) ∨ e ∈ T)
    (hd : ∀ i j, d i = d j ↔ (c i = c j ∨ (c i = c a ∨ c i = c b) ∧ (c j = c a ∨ c j = c b))) (hk : m a = some k) (hl : m b = some l) (hp : G[k]? = some p) (hq : G[l]? = some q) (hf : Fit p q)
    (hV : ∀ e, e ∈ V ↔ e ∈ T ∨ e ∈ pairs p.2.2.2 q.2.2.2) : Jn G d E V := by
  obtain ⟨ha, hb, hC⟩ := h.todo a b ((hU _).2 (.inl rfl))
  obtain ⟨p', hp', p1, hka⟩ := hM.some a k ha hk
  obtain ⟨q', hq', q1, hlb⟩ := hM.some b l hb hl
  rw [hp] at hp'; cases hp'
  rw [hq] at hq'; cases hq'
  have hkl : Cl G E k l := ((h.sound k a (lt_of_get hp) ha hka).trans hC).trans (h.sound l b (lt_of_get hq) hb hlb).symm
  have hg : ∀ {x y : Nat}, Gen G.length c U x y → Gen G.length d V x y := fun hx => hx.more (fun x y x1 x2 x3 => .col x1 x2 ((hd x y).2 (.inl x3))) fun x y hxy => by
    rcases (hU _).1 hxy with e | e
    · cases e; exact .col ha hb ((hd a b).2 (.inr ⟨.inl rfl, .inr rfl⟩))
    · exact .todo ((hV _).2 (.inl e))
  refine h.join hU hd (fun _ h => (hV _).2 (.inl h)) (fun x y hxy => ?_) fun x y p2 q2 hp2 hq2 hx hy p21 q21 => ?_
  · refine ((hV _).1 hxy).imp id fun hpq => ?_
    obtain ⟨j, h1, h2⟩ := mem_pairs.1 hpq
    exact ⟨h.parts k p hp x (List.mem_of_getElem? h1), h.parts l q hq y (List.mem_of_getElem? h2), .part hkl hp hq p1 q1 hf.1 hf.2 h1 h2⟩
  · obtain ⟨f1, f2⟩ := h.fit x k p2 p hp2 hp (hx.trans hka.symm) p21 p1
    obtain ⟨g1, g2⟩ := h.fit y l q2 q hq2 hq (hy.trans hlb.symm) q21 q1
    refine ⟨⟨f1.1.trans (hf.1.trans g1.1.symm), f1.2.trans (hf.2.trans g1.2.symm)⟩, fun j u v hu hv => ?_⟩
    have hj := lt_of_get hu
    obtain ⟨x1, hx1⟩ : ∃ x1, p.2.2.2[j]? = some x1 := ⟨_, List.getElem?_eq_getElem (by have := f1.2; omega)⟩
    obtain ⟨y1, hy1⟩ : ∃ y1, q.2.2.2[j]? = some y1 := ⟨_, List.getElem?_eq_getElem (by have := f1.2; have := hf.2; omega)⟩
    exact ((hg (f2 j u x1 hu hx1)).trans (.todo ((hV _).2 (.inr (mem_pairs.2 ⟨j, hx1, hy1⟩))))).trans (hg (g2 j v y1 hv hy1)).symm
/-- One round: they don't fit. -/
theorem Jn.clash {G : List Gn} {c : Nat → Nat} {m : Nat → Option Nat} {E U : List (Nat × Nat)} {a b k l : Nat} {p q : Gn} (h : Jn G c E U) (hM : Md G c m) (hU : (a, b) ∈ U)
    (hk : m a = some k) (hl : m b = some l) (hp : G[k]? = some p) (hq : G[l]? = some q) (hf : ¬ Fit p q) : Clash G E := by
  obtain ⟨ha, hb, hC⟩ := h.todo a b hU
  obtain ⟨p', hp', p1, hka⟩ := hM.some a k ha hk
  obtain ⟨q', hq', q1, hlb⟩ := hM.some b l hb hl
  rw [hp] at hp'; cases hp'
  rw [hq] at hq'; cases hq'
  exact ⟨k, l, p, q, ((h.sound k a (lt_of_get hp) ha hka).trans hC).trans (h.sound l b (lt_of_get hq) hb hlb).symm, hp, hq, p1, q1, hf⟩
/-- More nodes, each in a class of its own, and one equation more. -/
theorem Jn.grow {G A : List Gn} {c d : Nat → Nat} {E : List (Nat × Nat)} {a b : Nat} (h : Jn G c E []) (hd : ∀ i j, i < (G ++ A).length → j < (G ++ A).length → (d i = d j ↔ i = j ∨ (i < G.length ∧ j < G.length ∧ c i = c j)))
    (ha : a < (G ++ A).length) (hb : b < (G ++ A).length) (hp : ∀ (x : Nat) (p : Gn), (G ++ A)[x]? = some p → ∀ u ∈ p.2.2.2, u < (G ++ A).length) : Jn (G ++ A) d (E ++ [(a, b)]) [(a, b)] := by
  have hG : ∀ (i : Nat) (p : Gn), G[i]? = some p → (G ++ A)[i]? = some p := fun i p hi => (List.getElem?_append_left (lt_of_get hi)).trans hi
  have hE : ∀ e, e ∈ E → e ∈ E ++ [(a, b)] := fun e he => List.mem_append_left _ he
  have hlen : G.length ≤ (G ++ A).length := by simp
  have hg : ∀ {x y : Nat}, Gen G.length c [] x y → Gen (G ++ A).length d [(a, b)] x y := fun hx => by
    obtain ⟨h1, h2, h3⟩ := hx.none
    exact .col (by omega) (by omega) ((hd _ _ (by omega) (by omega)).2 (.inr ⟨h1, h2, h3⟩))
  refine ⟨fun i j hi hj e => ?_, fun x y hxy => ?_, fun x y hxy => ?_, fun x y p q hx hy e p1 q1 => ?_, hp⟩
  · rcases (hd i j hi hj).1 e with rfl | ⟨h1, h2, h3⟩
    · exact .refl _
    · exact (h.sound i j h1 h2 h3).more hG hE
  · simp only [List.mem_cons, List.not_mem_nil, or_false, Prod.mk.injEq] at hxy
    obtain ⟨rfl, rfl⟩ := hxy
    exact ⟨ha, hb, .eq (by simp)⟩
  · rcases List.mem_append.1 hxy with e | e
    · exact hg (h.eqs x y e)
    · exact .todo e
  · rcases (hd x y (lt_of_get hx) (lt_of_get hy)).1 e with rfl | ⟨h1, h2, h3⟩
    · rw [hx] at hy; cases hy
      refine ⟨⟨rfl, rfl⟩, fun j u v hu hv => ?_⟩
      rw [hu] at hv; cases hv
      have := hp x p hx u (List.mem_of_getElem? hu)
      exact .col this this rfl
    · have hx' : G[x]? = some p := by rw [List.getElem?_append_left h1] at hx; exact hx
      have hy' : G[y]? = some q := by rw [List.getElem?_append_left h2] at hy; exact hy
      obtain ⟨f1, f2⟩ := h.fit x y p q hx' hy' h3 p1 q1
      exact ⟨f1, fun j u v hu hv => hg (f2 j u v hu hv)⟩
end Go.Proofs.YtbnpmeaaaecciaaGreat
/- unify: a closure in memory. -/
namespace Go.Proofs.YtbnpmeaaaecciaaGreat
open Go.RowKit
open Un (Else StM rowI UFo own_else dg)
set_option maxRecDepth 100000
/-- A number, or none. -/
def oi : Option Nat → Int
  | some k => k
  | none => -1
/-- What is known of classes, as it lies. -/
abbrev Kn := Nat → Option Nat × Option Nat
def knR (n : Nat) (kn : Kn) : List Value := (List.range n).flatMap fun i => [.int .i64 (oi (kn i).1), .int .i64 (oi (kn i).2)]
/-- Where a closure's parts lie. -/
structure Adr where
  g : Nat
  mb : Nat
  V : Value
  L : List Nd
  f0 : Nat
  c : Nat
  fo : Nat
  ob : Nat
  K : Value
  N : Value
  S : Nat → Prop
/-- The graph's blocks. -/
def Adr.D (A : Adr) (k : Nat) : Prop := k = A.g ∨ k = A.mb ∨ A.V.ownBlock = some k ∨ ∃ x ∈ A.L, (slv x.2.2.2).ownBlock = some k
/-- All blocks but the graph's. -/
def Adr.F (A : Adr) (cb : Nat) (k : Nat) : Prop := A.S k ∨ k = cb ∨ k = A.ob ∨ k = A.f0 ∨ A.K.ownBlock = some k ∨ A.N.ownBlock = some k
theorem NdL.stay {B : Nat} {w w' : World} {L : List Nd} {G : List Gn} (h : NdL B w L G) (hk : ∀ x ∈ L, ∀ b, (slv x.2.2.2).ownBlock = some b → w'.heap[b]? = w.heap[b]?) : NdL B w' L G := by
  induction L generalizing G with
  | nil => cases G with
    | nil => trivial
    | cons => exact h.elim
  | cons x L ih => cases G with
    | nil => exact h.elim
    | cons y G =>
      obtain ⟨⟨h1, h2, h3, h4⟩, h5⟩ := h
      refine ⟨⟨h1, h2, h3, h4.1, ?_⟩, ih h5 fun z hz => hk z (List.mem_cons_of_mem _ hz)⟩
      rcases h4.2 with h | ⟨g, cap, cur, hv, hb, hg, hr⟩
      · exact .inl h
      · exact .inr ⟨g, cap, cur, hv, hb, (hk x List.mem_cons_self g (by rw [hv]; rfl)).trans hg, hr⟩
theorem GrM.stay {B : Nat} {w w' : World} {A : Adr} {G : List Gn} (h : GrM B w A.g A.V A.mb A.L G) (hk : ∀ k, A.D k → w'.heap[k]? = w.heap[k]?) : GrM B w' A.g A.V A.mb A.L G := by
  refine ⟨(hk _ (.inl rfl)).trans h.cell, ⟨h.row.1, ?_⟩, h.nodes.stay fun x hx b hb => hk b (.inr (.inr (.inr ⟨x, hx, hb⟩))), ?_, h.ge⟩
  · rcases h.row.2 with h2 | ⟨b, cap, cur, hv, hb, hh, hr2⟩
    · exact .inl h2
    · exact .inr ⟨b, cap, cur, hv, hb, (hk b (.inr (.inr (.inl (by rw [hv]; rfl))))).trans hh, hr2⟩
  · obtain ⟨S, hv⟩ := h.vars
    exact ⟨S, hv.block (hk _ (.inr (.inl rfl)))⟩
theorem NdL.blocks {B : Nat} {w : World} {L : List Nd} {G : List Gn} (h : NdL B w L G) : ∀ x ∈ L, ∀ b, (slv x.2.2.2).ownBlock = some b → b < w.heap.size := by
  induction L generalizing G with
  | nil => intro x hx; cases hx
  | cons y L ih => cases G with
    | nil => exact h.elim
    | cons z G =>
      intro x hx b hb
      rcases List.mem_cons.1 hx with rfl | hx
      · exact (h.1.2.2.2.lt b hb).2
      · exact ih h.2 x hx b hb
theorem own_zero {w : World} {base : Nat} {e : TypeId} {size : Nat} {v : Value} {n : Nat} {xs : List Value} (h : w.ownsRow base e size v n xs) : w.ownsRow 0 e size v n xs := by
  refine ⟨h.1, ?_⟩
  rcases h.2 with h | ⟨g, cap, cur, hv, hb, hr⟩
  · exact .inl h
  · exact .inr ⟨g, cap, cur, hv, Nat.zero_le _, hr⟩
theorem NdL.zero {B : Nat} {w : World} {L : List Nd} {G : List Gn} (h : NdL B w L G) : NdL 0 w L G := by
  induction L generalizing G with
  | nil => cases G with
    | nil => trivial
    | cons => exact h.elim
  | cons x L ih => cases G with
    | nil => exact h.elim
    | cons y G => exact ⟨⟨h.1.1, h.1.2.1, h.1.2.2.1, own_zero h.1.2.2.2⟩, ih h.2⟩
theorem GrM.zero {B : Nat} {w : World} {g mb : Nat} {v : Value} {L : List Nd} {G : List Gn} (h : GrM B w g v mb L G) : GrM 0 w g v mb L G :=
  ⟨h.cell, own_zero h.row, h.nodes.zero, h.vars, Nat.zero_le _, Nat.zero_le _⟩
theorem GrM.blocks {B : Nat} {w : World} {A : Adr} {G : List Gn} (h : GrM B w A.g A.V A.mb A.L G) {k : Nat} (hk : A.D k) : k < w.heap.size := by
  rcases hk with rfl | rfl | hk | ⟨x, hx, hk⟩
  · exact h.lt.1
  · exact h.lt.2
  · exact (h.row.lt k hk).2
  · exact h.nodes.blocks x hx k hk
/-- The sets of a closure, which may have no forest yet. -/
def StX (S : Nat → Prop) (w : World) (cb : Nat) (x0 x1 x2 : Value) (f0 c fo ob : Nat) (x6 x7 : Value) (n : Nat) (col ro : Nat → Nat) (fs : Int) : Prop :=
  StM S w cb x0 x1 x2 f0 c fo ob x6 x7 n col ro fs ∨
    (n = 0 ∧ (fs = 0 ∧ f0 = cb) ∧ w.heap[cb]? = some (Obj.cells #[x0, x1, x2, .slice none 0 0, .int .i64 0, .map (some ob), x6, x7] 69) ∧ MapF (fun _ => none) 0 0 ob w)
/-- A closure: its steps, whether they clash, its nodes, what is known, the rings of variables, the colors, the roots, the forest's steps. -/
structure ClM (O : Nat → Prop) (w : World) (cb : Nat) (A : Adr) (st : Int) (cl : Bool) (n : Nat) (G : List Gn) (kn : Kn) (nx col ro : Nat → Nat) (fs : Int) : Prop where
  sets : StX A.S w cb (.int .i64 st) (.bool cl) (.pointer (some ⟨A.g, 0, none⟩)) A.f0 A.c A.fo A.ob A.K A.N n col ro fs
  gr : GrM 0 w A.g A.V A.mb A.L G
  kr : w.ownsRow 0 104 2 A.K n (knR n kn)
  nr : w.ownsRow 0 3 1 A.N n (rowI n nx)
  d : ∀ k, A.D k → ¬ A.F cb k
  ks : ∀ k, A.K.ownBlock = some k → ¬ A.S k ∧ k ≠ cb ∧ k ≠ A.ob ∧ k ≠ A.f0 ∧ A.N.ownBlock ≠ some k
  ns : ∀ k, A.N.ownBlock = some k → ¬ A.S k ∧ k ≠ cb ∧ k ≠ A.ob ∧ k ≠ A.f0
  own : ∀ k, A.D k ∨ A.F cb k → O k
  sb : ∀ k, A.S k → k < w.heap.size
section
variable {O T : Nat → Prop} {w w' : World} {cb : Nat} {A : Adr} {st : Int} {cl : Bool} {n : Nat} {G : List Gn} {kn : Kn} {nx col ro col' ro' : Nat → Nat} {fs fs' : Int}
theorem StM.keep {S : Nat → Prop} {x0 x1 x2 x6 x7 : Value} {f0 fo ob c : Nat} (h : StM S w cb x0 x1 x2 f0 c fo ob x6 x7 n col ro fs) (he : Else T w w') (h1 : ¬ T cb) (h2 : ¬ T ob) (h3 : ¬ T f0) (h4 : ∀ k, S k → ¬ T k) : StM S w' cb x0 x1 x2 f0 c fo ob x6 x7 n col ro fs :=
  ⟨(he.block cb (Array.getElem?_eq_some_iff.1 h.blk).1 h1).trans h.blk, h.map.block (he.block ob h.map.lt h2), h.ncb, h.nob, h.nf0, own_else h.row he (fun k hk => by cases hk; exact h3), h.uf.keep he h4⟩
theorem StX.keep {S : Nat → Prop} {x0 x1 x2 x6 x7 : Value} {f0 fo ob c : Nat} (h : StX S w cb x0 x1 x2 f0 c fo ob x6 x7 n col ro fs) (he : Else T w w') (h1 : ¬ T cb) (h2 : ¬ T ob) (h3 : ¬ T f0) (h4 : ∀ k, S k → ¬ T k) : StX S w' cb x0 x1 x2 f0 c fo ob x6 x7 n col ro fs := by
  rcases h with h | ⟨e1, e2, e3, e4⟩
  · exact .inl (StM.keep h he h1 h2 h3 h4)
  · exact .inr ⟨e1, e2, (he.block cb (Array.getElem?_eq_some_iff.1 e3).1 h1).trans e3, e4.block (he.block ob e4.lt h2)⟩
/-- What leaves its blocks alone leaves it alone. -/
theorem ClM.aside (h : ClM O w cb A st cl n G kn nx col ro fs) (he : Else T w w') (ht : ∀ k, A.D k ∨ A.F cb k → ¬ T k) : ClM O w' cb A st cl n G kn nx col ro fs :=
  have hF : ∀ k, A.F cb k → ¬ T k := fun k hk => ht k (.inr hk)
  ⟨StX.keep h.sets he (hF _ (.inr (.inl rfl))) (hF _ (.inr (.inr (.inl rfl)))) (hF _ (.inr (.inr (.inr (.inl rfl))))) (fun k hk => hF k (.inl hk)),
   h.gr.stay fun k hk => he.block k (h.gr.blocks hk) (ht k (.inl hk)), own_else h.kr he (fun k hk => hF k (.inr (.inr (.inr (.inr (.inl hk)))))), own_else h.nr he (fun k hk => hF k (.inr (.inr (.inr (.inr (.inr hk)))))), h.d, h.ks, h.ns, h.own, fun k hk => Nat.lt_of_lt_of_le (h.sb k hk) he.size⟩
theorem ClM.keep (h : ClM O w cb A st cl n G kn nx col ro fs) (he : Else T w w') (ht : ∀ k, O k → ¬ T k) : ClM O w' cb A st cl n G kn nx col ro fs :=
  h.aside he fun k hk => ht k (h.own k hk)
theorem ClM.lt (h : ClM O w cb A st cl n G kn nx col ro fs) {k : Nat} (hk : A.D k ∨ A.F cb k) : k < w.heap.size := by
  rcases hk with hk | hk | rfl | rfl | rfl | hk | hk
  · exact h.gr.blocks hk
  · exact h.sb k hk
  · rcases h.sets with h | ⟨_, _, h, _⟩
    · exact (Array.getElem?_eq_some_iff.1 h.blk).1
    · exact (Array.getElem?_eq_some_iff.1 h).1
  · rcases h.sets with h | ⟨_, _, _, h⟩
    · exact h.map.lt
    · exact h.lt
  · rcases h.sets with h | ⟨_, ⟨_, e⟩, h, _⟩
    · exact (h.row.lt _ rfl).2
    · rw [e]; exact (Array.getElem?_eq_some_iff.1 h).1
  · exact (h.kr.lt k hk).2
  · exact (h.nr.lt k hk).2
/-- The forest alone turns. -/
theorem ClM.turn (h : ClM O w cb A st cl n G kn nx col ro fs) (he : Else A.S w w') (hs : StM A.S w' cb (.int .i64 st) (.bool cl) (.pointer (some ⟨A.g, 0, none⟩)) A.f0 A.c A.fo A.ob A.K A.N n col' ro' fs') : ClM O w' cb A st cl n G kn nx col' ro' fs' :=
  ⟨.inl hs, h.gr.stay fun k hk => he.block k (h.gr.blocks hk) fun hx => h.d k hk (.inl hx), own_else h.kr he (fun k hk => (h.ks k hk).1), own_else h.nr he (fun k hk => (h.ns k hk).1), h.d, h.ks, h.ns, h.own, fun k hk => Nat.lt_of_lt_of_le (h.sb k hk) he.size⟩
/-- With nodes, there is a forest. -/
theorem ClM.stm (h : ClM O w cb A st cl n G kn nx col ro fs) (hn : 0 < n) : StM A.S w cb (.int .i64 st) (.bool cl) (.pointer (some ⟨A.g, 0, none⟩)) A.f0 A.c A.fo A.ob A.K A.N n col ro fs := by
  rcases h.sets with h | ⟨h, _⟩
  · exact h
  · omega
/-- The closure's own cells. -/
theorem ClM.blk (h : ClM O w cb A st cl n G kn nx col ro fs) : ∃ F, w.heap[cb]? = some (Obj.cells #[.int .i64 st, .bool cl, .pointer (some ⟨A.g, 0, none⟩), F, .int .i64 n, .map (some A.ob), A.K, A.N] 69) := by
  rcases h.sets with h | ⟨h, _, h2, _⟩
  · exact ⟨_, h.blk⟩
  · subst h; exact ⟨_, h2⟩
theorem ClM.cells (h : ClM O w cb A st cl n G kn nx col ro fs) : cb < w.heap.size ∧ (∀ k, w.frozen? ⟨cb, k, none⟩ = false) ∧ w.cell? ⟨cb, 0, none⟩ = some (.int .i64 st) ∧ w.cell? ⟨cb, 1, none⟩ = some (.bool cl) ∧ w.cell? ⟨cb, 2, none⟩ = some (.pointer (some ⟨A.g, 0, none⟩)) ∧ w.cell? ⟨cb, 6, none⟩ = some A.K ∧ w.cell? ⟨cb, 7, none⟩ = some A.N := by
  obtain ⟨F, hb⟩ := h.blk
  exact ⟨(Array.getElem?_eq_some_iff.1 hb).1, fun k => by simp [World.frozen?, hb], cell_of_row w cb 0 _ _ _ hb, cell_of_row w cb 1 _ _ _ hb, cell_of_row w cb 2 _ _ _ hb, cell_of_row w cb 6 _ _ _ hb, cell_of_row w cb 7 _ _ _ hb⟩
/-- The steps, or that they clash, are told anew. -/
theorem ClM.set0 (h : ClM O w cb A st cl n G kn nx col ro fs) (st' : Int) : ClM O (w.setCell ⟨cb, 0, none⟩ (.int .i64 st')) cb A st' cl n G kn nx col ro fs := by
  have hE : Else (fun k => k = cb) w (w.setCell ⟨cb, 0, none⟩ (.int .i64 st')) := Un.Else.set (S := fun k => k = cb) w (p := ⟨cb, 0, none⟩) rfl _
  refine ⟨?_, h.gr.stay fun k hk => hE.block k (h.gr.blocks hk) fun e => h.d k hk (.inr (.inl e)), own_else h.kr hE fun k hk => (h.ks k hk).2.1, own_else h.nr hE fun k hk => (h.ns k hk).2.1, h.d, h.ks, h.ns, h.own, fun k hk => Nat.lt_of_lt_of_le (h.sb k hk) hE.size⟩
  rcases h.sets with h | ⟨e1, e2, e3, e4⟩
  · have hne : A.f0 ≠ cb := fun e => Un.row_ne h.row h.blk (by decide) (by rw [e]; rfl)
    have hoc : A.ob ≠ cb := fun e => by
      obtain ⟨_, _, ⟨_, _, hm, _⟩, _⟩ := h.map
      rw [e, h.blk] at hm
      cases hm
    exact .inl ⟨heap_setCell_same w cb 0 _ _ _ h.blk, h.map.block (hE.block _ h.map.lt hoc), h.ncb, h.nob, h.nf0, own_else h.row hE fun k hk => by cases hk; exact hne, h.uf.keep hE fun k hk e => by subst e; exact h.ncb hk⟩
  · have hoc : A.ob ≠ cb := fun e => by
      obtain ⟨_, _, ⟨_, _, hm, _⟩, _⟩ := e4
      rw [e, e3] at hm
      cases hm
    exact .inr ⟨e1, e2, heap_setCell_same w cb 0 _ _ _ e3, e4.block (hE.block _ e4.lt hoc)⟩
theorem ClM.set1 (h : ClM O w cb A st cl n G kn nx col ro fs) (cl' : Bool) : ClM O (w.setCell ⟨cb, 1, none⟩ (.bool cl')) cb A st cl' n G kn nx col ro fs := by
  have hE : Else (fun k => k = cb) w (w.setCell ⟨cb, 1, none⟩ (.bool cl')) := Un.Else.set (S := fun k => k = cb) w (p := ⟨cb, 1, none⟩) rfl _
  refine ⟨?_, h.gr.stay fun k hk => hE.block k (h.gr.blocks hk) fun e => h.d k hk (.inr (.inl e)), own_else h.kr hE fun k hk => (h.ks k hk).2.1, own_else h.nr hE fun k hk => (h.ns k hk).2.1, h.d, h.ks, h.ns, h.own, fun k hk => Nat.lt_of_lt_of_le (h.sb k hk) hE.size⟩
  rcases h.sets with h | ⟨e1, e2, e3, e4⟩
  · have hne : A.f0 ≠ cb := fun e => Un.row_ne h.row h.blk (by decide) (by rw [e]; rfl)
    have hoc : A.ob ≠ cb := fun e => by
      obtain ⟨_, _, ⟨_, _, hm, _⟩, _⟩ := h.map
      rw [e, h.blk] at hm
      cases hm
    exact .inl ⟨heap_setCell_same w cb 1 _ _ _ h.blk, h.map.block (hE.block _ h.map.lt hoc), h.ncb, h.nob, h.nf0, own_else h.row hE fun k hk => by cases hk; exact hne, h.uf.keep hE fun k hk e => by subst e; exact h.ncb hk⟩
  · have hoc : A.ob ≠ cb := fun e => by
      obtain ⟨_, _, ⟨_, _, hm, _⟩, _⟩ := e4
      rw [e, e3] at hm
      cases hm
    exact .inr ⟨e1, e2, heap_setCell_same w cb 1 _ _ _ e3, e4.block (hE.block _ e4.lt hoc)⟩
/-- Steps are counted. -/
theorem count_cl (h : ClM O w cb A st cl n G kn nx col ro fs) (m : Int) (hm : 0 ≤ m ∧ m ≤ 1000000000000000) (hs : 0 ≤ st ∧ st ≤ 1000000000000000) :
    Calls Tryz.prog 59 #[.pointer (some ⟨cb, 0, none⟩), .int .i64 m] w fun e w' => e = .returned (.tuple #[]) ∧ ClM O w' cb A (st + m) cl n G kn nx col ro fs ∧ Else (fun k => k = cb) w w' := by
  obtain ⟨hl, hz, c0, _⟩ := h.cells
  have hz0 := hz 0
  have HH := Lib.hid h
  clear h hz
  go_enter Tryz.func59, Tryz.ntmps59
  go_wp2_with fail
  exact bodyPost_end (results_none rfl _ _ _) rfl ⟨rfl, HH.out.set0 _, Un.Else.set (S := fun k => k = cb) w (p := ⟨cb, 0, none⟩) rfl _⟩
/-- What a new closure owns. -/
theorem new_cl (w : World) : Calls Tryz.prog 6 #[] w fun e w' => ∃ cb A, e = .returned (.pointer (some ⟨cb, 0, none⟩)) ∧ ClM (fun k => w.heap.size ≤ k) w' cb A 0 false 0 [] (fun _ => (none, none)) (fun j => j) (fun j => j) (fun j => j) 0 ∧ Below w.heap.size w w' := by
  have hmm := @run_makeMap Tryz.prog
  have HN := new_graph w
  go_enter Tryz.func6, Tryz.ntmps6
  go_wp2_with fail
  refine HN.mono ?_
  rintro e w1 ⟨g, mb, rfl, hG, hB⟩
  have HG := Lib.hid (And.intro hG hB)
  clear hG hB HN
  go_wp2_with fail
  obtain ⟨hG, hB⟩ := HG.out
  refine bodyPost_ret (results_tmp rfl _ _ _) rfl ?_
  have hb2 : Below w1.heap.size w1 ((w1.alloc (Obj.map #[] 0)).alloc (Obj.cells #[.int .i64 0, .bool false, .pointer (some ⟨g, 0, none⟩), .slice none 0 0, .int .i64 0, .map (some w1.heap.size), .slice none 0 0, .slice none 0 0] 69)) := ((Below.refl _ _).alloc (Nat.le_refl _) _).alloc (by simp) _
  have hlt := hG.lt
  have hge := hG.ge
  have hsz := hB.size
  refine ⟨_, ⟨g, mb, .slice none 0 0, [], w1.heap.size + 1, 0, 0, w1.heap.size, .slice none 0 0, .slice none 0 0, fun _ => False⟩, rfl, ⟨.inr ⟨rfl, ⟨rfl, rfl⟩, ?_, ?_⟩, (hG.below hb2).zero, World.ownsRow_nil _ _ _ _, World.ownsRow_nil _ _ _ _, ?_, fun k hk => (by cases hk), fun k hk => (by cases hk), ?_, fun k hk => hk.elim⟩, hB.trans (hb2.mono hsz)⟩
  · have h := heap_alloc_new (w1.alloc (Obj.map #[] 0)) (Obj.cells #[.int .i64 0, .bool false, .pointer (some ⟨g, 0, none⟩), .slice none 0 0, .int .i64 0, .map (some w1.heap.size), .slice none 0 0, .slice none 0 0] 69)
    rwa [World.size_alloc] at h
  · exact (MapF.made w1).kept (World.grownBy_alloc _ _ none) (by simp)
  · intro k hk hF
    have h1 : k < w1.heap.size := by
      rcases hk with h | h | h | ⟨x, hx, _⟩
      · have h : k = g := h
        omega
      · have h : k = mb := h
        omega
      · cases h
      · cases hx
    rcases hF with h | h | h | h | h | h
    · exact h
    · omega
    · have h : k = w1.heap.size := h
      omega
    · have h : k = w1.heap.size + 1 := h
      omega
    · cases h
    · cases h
  · intro k hk
    rcases hk with (h | h | h | ⟨x, hx, _⟩) | (h | h | h | h | h | h)
    · have h : k = g := h
      show w.heap.size ≤ k
      omega
    · have h : k = mb := h
      show w.heap.size ≤ k
      omega
    · cases h
    · cases hx
    · exact h.elim
    · show w.heap.size ≤ k
      omega
    · have h : k = w1.heap.size := h
      show w.heap.size ≤ k
      omega
    · have h : k = w1.heap.size + 1 := h
      show w.heap.size ≤ k
      omega
    · cases h
    · cases h
end
end Go.Proofs.YtbnpmeaaaecciaaGreat
/- unify: mix. -/
namespace Go.Proofs.YtbnpmeaaaecciaaGreat
open Go.RowKit
open Un (Else StM rowI UFo own_else dg swp wp_world)
set_option maxRecDepth 100000
section
variable {O T : Nat → Prop} {w w' : World} {cb : Nat} {A : Adr} {st : Int} {cl : Bool} {n : Nat} {G : List Gn} {kn : Kn} {nx col ro col' ro' : Nat → Nat} {fs fs' : Int}
theorem ClM.below (h : ClM O w cb A st cl n G kn nx col ro fs) (hb : Below w.heap.size w w') : ClM O w' cb A st cl n G kn nx col ro fs :=
  h.keep (Else.of_below (S := fun _ => False) hb) fun _ _ => id
theorem ClM.ring (h : ClM O w cb A st cl n G kn nx col ro fs) {nx' : Nat → Nat} (he : Else (fun k => A.N.ownBlock = some k) w w') (hr : w'.ownsRow 0 3 1 A.N n (rowI n nx')) : ClM O w' cb A st cl n G kn nx' col ro fs := by
  have hF : ∀ k, A.N.ownBlock = some k → ¬ A.S k ∧ k ≠ cb ∧ k ≠ A.ob ∧ k ≠ A.f0 := h.ns
  exact ⟨StX.keep h.sets he (fun e => (hF _ e).2.1 rfl) (fun e => (hF _ e).2.2.1 rfl) (fun e => (hF _ e).2.2.2 rfl) (fun k hk e => (hF k e).1 hk), h.gr.stay fun k hk => he.block k (h.gr.blocks hk) fun e => h.d k hk (.inr (.inr (.inr (.inr (.inr e))))), own_else h.kr he fun k hk => (h.ks k hk).2.2.2.2, hr, h.d, h.ks, h.ns, h.own, fun k hk => Nat.lt_of_lt_of_le (h.sb k hk) he.size⟩
theorem mix_both (h : ClM O w cb A st cl n G kn nx col ro fs) (hnG : n ≤ G.length) (a b : Nat) (ha : a < n) (hb : b < n) (hab : a ≠ b) (p q : Gn) (hp : G[a]? = some p) (hq : G[b]? = some q) (p1 : p.1 = 1) (q1 : q.1 = 1) :
    Calls Tryz.prog 82 #[.pointer (some ⟨cb, 0, none⟩), .int .i64 (a : Nat), .int .i64 (b : Nat)] w fun e w' => e = .returned (.int .i64 ((if p.2.1 < q.2.1 then a else b : Nat) : Nat)) ∧ ClM O w' cb A st cl n G kn (swp nx a b) col ro fs ∧ Else (fun k => A.N.ownBlock = some k) w w' := by
  obtain ⟨hl, hz, _, _, c2, _, c7⟩ := h.cells
  obtain ⟨nb, cN, hN, _, _⟩ := Un.own_shape h.nr (by omega)
  have hrow := h.nr
  rw [hN] at c7 hrow
  have ra : w.cell? ⟨nb, a, none⟩ = some (.int .i64 (nx a : Nat)) := (hrow.cellAt a (by omega)).trans (Un.rowI_get ha)
  have rb : w.cell? ⟨nb, b, none⟩ = some (.int .i64 (nx b : Nat)) := (hrow.cellAt b (by omega)).trans (Un.rowI_get hb)
  have hba : b ≠ a := Ne.symm hab
  have za := hrow.frozenAt a
  have zb := hrow.frozenAt b
  have f1 : ((a : Int) == -1) = false := by simp
  have f2 : ((b : Int) == -1) = false := by simp
  have HH := Lib.hid h
  have HN := Lib.hid (And.intro hN hrow)
  clear h hrow hz hN
  go_enter Tryz.func82, Tryz.ntmps82
  go_wp2_with fail
  go_region
  go_upto_region 4 with fail
  refine wp_world (fun V => ClM O V cb A st cl n G kn (swp nx a b) col ro fs ∧ Else (fun k => A.N.ownBlock = some k) w V) ?_ ?_
  · obtain ⟨hN, hrow⟩ := HN.out
    obtain ⟨o1, g1⟩ := hrow.stored a (.int .i64 (nx b : Nat))
    obtain ⟨o2, g2⟩ := o1.stored b (.int .i64 (nx a : Nat))
    rw [Un.rowI_set, Un.rowI_set, ← hN] at o2
    have hE : Else (fun k => A.N.ownBlock = some k) w ((w.setCell ⟨nb, a, none⟩ (.int .i64 (nx b : Nat))).setCell ⟨nb, b, none⟩ (.int .i64 (nx a : Nat))) := (Un.Else.set w (p := ⟨nb, a, none⟩) (by rw [hN]; rfl) _).trans (Un.Else.set _ (p := ⟨nb, b, none⟩) (by rw [hN]; rfl) _)
    exact ⟨(HH.out.ring hE o2).below (Below.refl _ _).drew, hE.drew⟩
  rintro V ⟨hV, hE⟩
  obtain ⟨_, _, _, _, d2, _, _⟩ := hV.cells
  have hx : G[a] = p := (List.getElem?_eq_some_iff.1 hp).2
  have hy : G[b] = q := (List.getElem?_eq_some_iff.1 hq).2
  clear HN hba
  have HA := name_in V 0 A.g A.mb A.V A.L G hV.gr a (by omega)
  have HF := Lib.hid (And.intro hV hE)
  clear hl c2 c7 ra rb za zb hV hE
  go_wp2_with fail
  refine HA.mono ?_
  rintro e w2 ⟨rfl, hb2⟩
  rw [hx, if_pos p1]
  obtain ⟨hV, hE⟩ := HF.out
  have hV2 := hV.below hb2
  obtain ⟨_, _, _, _, d2', _, _⟩ := hV2.cells
  have HB := name_in w2 0 A.g A.mb A.V A.L G hV2.gr b (by omega)
  have HF2 := Lib.hid (And.intro hV2 (hE.trans (Else.of_below hb2)))
  clear hV hE hV2 hb2 HA HF
  go_wp2_with fail
  refine HB.mono ?_
  rintro e w3 ⟨rfl, hb3⟩
  rw [hy, if_pos q1]
  have HF3 := Lib.hid (And.intro (HF2.out.1.below hb3) (HF2.out.2.trans (Else.of_below hb3)))
  clear hb3 HB HF2
  by_cases hlt : p.2.1 < q.2.1
  · have g1 : decide (p.2.1 < q.2.1) = true := decide_eq_true hlt
    go_wp2_with fail
    go_ret
    exact ⟨rfl, HF3.out⟩
  · have g1 : decide (p.2.1 < q.2.1) = false := decide_eq_false hlt
    go_wp2_with fail
    go_ret
    exact ⟨rfl, HF3.out⟩
end
end Go.Proofs.YtbnpmeaaaecciaaGreat
/- unify: mix, where one has no variable. -/
namespace Go.Proofs.YtbnpmeaaaecciaaGreat
open Go.RowKit
open Un (Else StM rowI UFo own_else dg swp wp_world)
set_option maxRecDepth 100000
theorem max_run (w : World) (x y : Int) : (Builtin.max_ #[3, 3] 3 #[.int .i64 x, .int .i64 y]).run Tryz.prog w = .ok (.int .i64 (if x < y then y else x)) w := by
  have e : (Builtin.max_ #[3, 3] 3 #[.int .i64 x, .int .i64 y]) = (do pure (← Builtin.max2 (.int .i64 x) (.int .i64 y))) := rfl
  rw [e]
  rfl
section
variable {O T : Nat → Prop} {w w' : World} {cb : Nat} {A : Adr} {st : Int} {cl : Bool} {n : Nat} {G : List Gn} {kn : Kn} {nx col ro col' ro' : Nat → Nat} {fs fs' : Int}
theorem oi_none (a : Nat) : ((oi (some a)) == -1) = false := by
  simp [oi]
theorem mix_none (w : World) (cb : Nat) (a b : Option Nat) (hab : a = none ∨ b = none) :
    Calls Tryz.prog 82 #[.pointer (some ⟨cb, 0, none⟩), .int .i64 (oi a), .int .i64 (oi b)] w fun e w' => e = .returned (.int .i64 (oi (a.or b))) ∧ w' = w := by
  have hm := max_run w (oi a) (oi b)
  have hv : (if oi a < oi b then oi b else oi a) = oi (a.or b) := by
    cases a with
    | none => cases b with
      | none => rfl
      | some b => simp [oi]; omega
    | some a =>
      rcases hab with h | h
      · cases h
      · subst h
        have : ¬ ((a : Int) < -1) := by omega
        simp [oi, this]
  rw [hv] at hm
  cases a with
  | none =>
    have f1 : ((oi none) == -1) = true := rfl
    go_enter Tryz.func82, Tryz.ntmps82
    go_wp2_with fail
    go_ret
    exact ⟨rfl, rfl⟩
  | some a =>
    obtain rfl : b = none := by
      rcases hab with h | h
      · cases h
      · exact h
    have f1 := oi_none a
    have f2 : ((oi none) == -1) = true := rfl
    go_enter Tryz.func82, Tryz.ntmps82
    go_wp2_with fail
    go_ret
    exact ⟨rfl, rfl⟩
end
end Go.Proofs.YtbnpmeaaaecciaaGreat
