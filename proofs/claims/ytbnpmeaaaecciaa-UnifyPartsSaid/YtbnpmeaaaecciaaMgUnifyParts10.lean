/- Texts of one proof, one behind the other. -/
import Derived.WalkKit
import Derived.Test.YtbnpmeaaaecciaaRows
import Derived.Test.YtbnpmeaaaecciaaMgUnifyParts1
import Derived.WalkSpells
import Derived.WalkLawsBesides
import Derived.Lib.Hide
import Derived.OwnWalk
import Derived.Deep.QuietTactic
import Derived.BigQuiet
import Derived.WalkMore
import Derived.ScopeJumps
/- Sets that become one: the mathematics of a forest with ranks (nothing here speaks of the program). -/
namespace Go.Proofs.Ytbnpmeaaaecciaa.Un

def upd (f : Nat → Nat) (i v : Nat) : Nat → Nat := fun k => if k = i then v else f k
theorem upd_same (f : Nat → Nat) (i v : Nat) : upd f i v i = v := by simp [upd]
theorem upd_other (f : Nat → Nat) {i k : Nat} (v : Nat) (h : k ≠ i) : upd f i v k = f k := by simp [upd, h]
/-- How many have the color of one. -/
def cls (n : Nat) (col : Nat → Nat) (i : Nat) : Nat := (List.range n).countP fun k => col k == col i
/-- How many colors. -/
def cnt (n : Nat) (col : Nat → Nat) : Nat := (List.range n).countP fun i => (List.range i).all fun j => !(col j == col i)
/-- Two ways to color are the same. -/
def Ker (n : Nat) (c d : Nat → Nat) : Prop := ∀ i j, i < n → j < n → (c i = c j ↔ d i = d j)
theorem Ker.cls {n : Nat} {c d : Nat → Nat} (h : Ker n c d) {i : Nat} (hi : i < n) : cls n c i = cls n d i := by
  unfold Un.cls
  apply List.countP_congr
  intro k hk
  simp only [beq_iff_eq]
  exact h k i (List.mem_range.1 hk) hi
theorem Ker.cnt {n : Nat} {c d : Nat → Nat} (h : Ker n c d) : cnt n c = cnt n d := by
  unfold Un.cnt
  apply List.countP_congr
  intro k hk
  have hk := List.mem_range.1 hk
  simp only [List.all_eq_true, List.mem_range, Bool.not_eq_true', beq_eq_false_iff_ne, ne_eq]
  constructor
  · intro g j hj; exact fun e => g j hj ((h j k (by omega) hk).2 e)
  · intro g j hj; exact fun e => g j hj ((h j k (by omega) hk).1 e)
structure UFr (n : Nat) (par sz col rk : Nat → Nat) : Prop where
  lt : ∀ i, i < n → par i < n
  colp : ∀ i, i < n → col (par i) = col i
  root : ∀ i j, i < n → j < n → par i = i → par j = j → col i = col j → i = j
  up : ∀ i, i < n → par i ≠ i → rk i < rk (par i)
  big : ∀ i, i < n → par i = i → 2 ^ rk i ≤ sz i
  small : ∀ i, i < n → 2 ^ rk i ≤ n
  size : ∀ i, i < n → par i = i → sz i = cls n col i
theorem cls_le (n : Nat) (col : Nat → Nat) (i : Nat) : cls n col i ≤ n := by
  have := List.countP_le_length (p := fun k => col k == col i) (l := List.range n)
  simpa [cls] using this
theorem UFr.ker {n : Nat} {par sz col rk d : Nat → Nat} (h : UFr n par sz col rk) (k : Ker n col d) : UFr n par sz d rk where
  lt := h.lt
  colp i hi := (k _ _ (h.lt i hi) hi).1 (h.colp i hi)
  root i j hi hj a b e := h.root i j hi hj a b ((k i j hi hj).2 e)
  up := h.up
  big := h.big
  small := h.small
  size i hi a := (h.size i hi a).trans (k.cls hi)
/-- A step nearer to the root. -/
theorem UFr.halve {n : Nat} {par sz col rk : Nat → Nat} (h : UFr n par sz col rk) {i : Nat} (hi : i < n) (ht : par (par i) ≠ par i) :
    UFr n (upd par i (par (par i))) sz col rk ∧ (∀ j, j < n → (upd par i (par (par i)) j = j ↔ par j = j)) ∧ rk i < rk (par (par i)) := by
  have hpi : par i ≠ i := fun e => ht (by rw [e, e])
  have h1 := h.up i hi hpi
  have h2 := h.up (par i) (h.lt i hi) ht
  have hne : par (par i) ≠ i := fun e => by rw [e] at h2; omega
  have hroots : ∀ j, j < n → (upd par i (par (par i)) j = j ↔ par j = j) := by
    intro j hj
    by_cases e : j = i
    · subst e; rw [upd_same]; exact ⟨fun x => absurd x hne, fun x => absurd x hpi⟩
    · rw [upd_other _ _ e]
  refine ⟨⟨fun j hj => ?_, fun j hj => ?_, fun a b ha hb hpa hpb => h.root a b ha hb ((hroots a ha).1 hpa) ((hroots b hb).1 hpb), fun j hj hpj => ?_, fun j hj hpj => h.big j hj ((hroots j hj).1 hpj), h.small, fun j hj hpj => h.size j hj ((hroots j hj).1 hpj)⟩, hroots, by omega⟩
  · by_cases e : j = i
    · subst e; rw [upd_same]; exact h.lt _ (h.lt _ hj)
    · rw [upd_other _ _ e]; exact h.lt j hj
  · by_cases e : j = i
    · subst e; rw [upd_same, h.colp _ (h.lt _ hj), h.colp _ hj]
    · rw [upd_other _ _ e]; exact h.colp j hj
  · by_cases e : j = i
    · subst e; rw [upd_same]; omega
    · rw [upd_other _ _ e] at hpj ⊢; exact h.up j hj hpj
/-- One color for two. -/
def paint (col : Nat → Nat) (a b : Nat) : Nat → Nat := fun k => if col k = col b then col a else col k
theorem paint_eq (col : Nat → Nat) (a b x y : Nat) : paint col a b x = paint col a b y ↔ (col x = col y ∨ (col x = col a ∨ col x = col b) ∧ (col y = col a ∨ col y = col b)) := by
  unfold paint
  by_cases hx : col x = col b <;> by_cases hy : col y = col b
  · rw [if_pos hx, if_pos hy]; exact ⟨fun _ => .inr ⟨.inr hx, .inr hy⟩, fun _ => rfl⟩
  · rw [if_pos hx, if_neg hy]
    constructor
    · intro e; exact .inr ⟨.inr hx, .inl e.symm⟩
    · rintro (e | ⟨_, e | e⟩)
      · exact absurd (e.symm.trans hx) hy
      · exact e.symm
      · exact absurd e hy
  · rw [if_neg hx, if_pos hy]
    constructor
    · intro e; exact .inr ⟨.inl e, .inr hy⟩
    · rintro (e | ⟨e | e, _⟩)
      · exact absurd (e.trans hy) hx
      · exact e
      · exact absurd e hx
  · rw [if_neg hx, if_neg hy]
    constructor
    · intro e; exact .inl e
    · rintro (e | ⟨e | e, f | f⟩)
      · exact e
      · rw [e, f]
      · exact absurd f hy
      · exact absurd e hx
      · exact absurd e hx
theorem paint_ker {n : Nat} {col : Nat → Nat} {a b c d : Nat} (h : (col c = col a ∧ col d = col b) ∨ (col c = col b ∧ col d = col a)) : Ker n (paint col a b) (paint col c d) := by
  intro i j _ _
  rw [paint_eq, paint_eq]
  rcases h with ⟨h1, h2⟩ | ⟨h1, h2⟩ <;> rw [h1, h2]
  constructor <;> (rintro (h | ⟨h, h'⟩); exact .inl h; exact .inr ⟨h.symm, h'.symm⟩)
theorem countP_two {α} (p q r : α → Bool) : ∀ (l : List α), (∀ x ∈ l, r x = (p x || q x) ∧ ¬ (p x = true ∧ q x = true)) → l.countP r = l.countP p + l.countP q
  | [], _ => rfl
  | x :: l, h => by
    have ih := countP_two p q r l fun y hy => h y (List.mem_cons_of_mem _ hy)
    obtain ⟨h1, h2⟩ := h x List.mem_cons_self
    rw [List.countP_cons, List.countP_cons, List.countP_cons, ih, h1]
    cases hp : p x <;> cases hq : q x <;> simp [hp, hq] at h2 ⊢ <;> omega
theorem cls_paint {n : Nat} {col : Nat → Nat} {r o : Nat} (hne : col r ≠ col o) : cls n (paint col r o) r = cls n col r + cls n col o := by
  apply countP_two
  intro k _
  have e : (paint col r o k = paint col r o r) ↔ (col k = col r ∨ col k = col o) := by
    rw [paint_eq]
    constructor
    · rintro (h | ⟨h, _⟩)
      · exact .inl h
      · exact h
    · intro h; exact .inr ⟨h, .inl rfl⟩
  constructor
  · rw [Bool.eq_iff_iff]; simp only [beq_iff_eq, Bool.or_eq_true]; exact e
  · simp only [beq_iff_eq, not_and]; intro h1 h2; exact hne (h1.symm.trans h2)
theorem cls_paint_other {n : Nat} {col : Nat → Nat} {r o x : Nat} (h1 : col x ≠ col r) (h2 : col x ≠ col o) : cls n (paint col r o) x = cls n col x := by
  unfold cls
  apply List.countP_congr
  intro k _
  simp only [beq_iff_eq, paint_eq]
  constructor
  · rintro (h | ⟨_, h | h⟩)
    · exact h
    · exact absurd h h1
    · exact absurd h h2
  · exact .inl
theorem UFr.join {n : Nat} {par sz col rk : Nat → Nat} (h : UFr n par sz col rk) {r o : Nat} (hr : r < n) (ho : o < n) (pr : par r = r) (po : par o = o) (hne : r ≠ o) (hs : sz o ≤ sz r) :
    UFr n (upd par o r) (upd sz r (sz r + sz o)) (paint col r o) (upd rk r (max (rk r) (rk o + 1))) := by
  have hcne : col r ≠ col o := fun e => hne (h.root r o hr ho pr po e)
  have hrt : ∀ j, j < n → (upd par o r j = j ↔ (par j = j ∧ j ≠ o)) := by
    intro j hj
    by_cases e : j = o
    · subst e; rw [upd_same]; simp [hne]
    · rw [upd_other _ _ e]; simp [e]
  have hbig : 2 ^ max (rk r) (rk o + 1) ≤ sz r + sz o := by
    have b1 := h.big r hr pr
    have b2 := h.big o ho po
    rcases Nat.le_total (rk r) (rk o + 1) with e | e
    · rw [Nat.max_eq_right e, Nat.pow_succ]; omega
    · rw [Nat.max_eq_left e]; omega
  have hsize : sz r + sz o = cls n (paint col r o) r := by rw [cls_paint hcne, h.size r hr pr, h.size o ho po]
  refine ⟨fun j hj => ?_, fun j hj => ?_, fun a b ha hb hpa hpb e => ?_, fun j hj hpj => ?_, fun j hj hpj => ?_, fun j hj => ?_, fun j hj hpj => ?_⟩
  · by_cases e : j = o
    · subst e; rw [upd_same]; exact hr
    · rw [upd_other _ _ e]; exact h.lt j hj
  · by_cases e : j = o
    · subst e; rw [upd_same, paint_eq]; exact .inr ⟨.inl rfl, .inr rfl⟩
    · rw [upd_other _ _ e, paint_eq]; exact .inl (h.colp j hj)
  · obtain ⟨pa, ao⟩ := (hrt a ha).1 hpa
    obtain ⟨pb, bo⟩ := (hrt b hb).1 hpb
    rcases (paint_eq _ _ _ _ _).1 e with e | ⟨e1, e2⟩
    · exact h.root a b ha hb pa pb e
    · have f1 : a = r := by
        rcases e1 with e1 | e1
        · exact h.root a r ha hr pa pr e1
        · exact absurd (h.root a o ha ho pa po e1) ao
      have f2 : b = r := by
        rcases e2 with e2 | e2
        · exact h.root b r hb hr pb pr e2
        · exact absurd (h.root b o hb ho pb po e2) bo
      rw [f1, f2]
  · by_cases e : j = o
    · subst e
      rw [upd_same, upd_same, upd_other _ _ (Ne.symm hne)]
      omega
    · rw [upd_other _ _ e] at hpj ⊢
      have hu := h.up j hj hpj
      have hjr : j ≠ r := fun e2 => hpj (by rw [e2]; exact pr)
      rw [upd_other _ _ hjr]
      by_cases e3 : par j = r
      · rw [e3, upd_same]; rw [e3] at hu; omega
      · rw [upd_other _ _ e3]; exact hu
  · obtain ⟨pj, jo⟩ := (hrt j hj).1 hpj
    by_cases e : j = r
    · subst e; rw [upd_same, upd_same]; exact hbig
    · rw [upd_other _ _ e, upd_other _ _ e]; exact h.big j hj pj
  · by_cases e : j = r
    · subst e
      rw [upd_same]
      refine Nat.le_trans hbig ?_
      rw [hsize]; exact cls_le _ _ _
    · rw [upd_other _ _ e]; exact h.small j hj
  · obtain ⟨pj, jo⟩ := (hrt j hj).1 hpj
    by_cases e : j = r
    · subst e; rw [upd_same]; exact hsize
    · rw [upd_other _ _ e, cls_paint_other (fun x => e (h.root j r hj hr pj pr x)) (fun x => jo (h.root j o hj ho pj po x))]
      exact h.size j hj pj
/-- At first each is alone. -/
theorem UFr.alone (n : Nat) : UFr n (fun k => k) (fun _ => 1) (fun k => k) (fun _ => 0) where
  lt i hi := hi
  colp i _ := rfl
  root i j _ _ _ _ e := e
  up i _ h := absurd rfl h
  big i _ _ := Nat.le_refl _
  small i hi := by simp; omega
  size i hi _ := by
    unfold cls
    have : (List.range n).countP (fun k => k == i) = (List.range n).count i := rfl
    rw [this, List.Nodup.count List.nodup_range, if_pos (List.mem_range.2 hi)]
end Go.Proofs.Ytbnpmeaaaecciaa.Un
/- Sets that become one: how many there are, what was joined, and the ring of each set (nothing here speaks of the program). -/
namespace Go.Proofs.Ytbnpmeaaaecciaa.Un

/-- What joins were made, and what follows of them alone. -/
structure Joined (n : Nat) (E : List (Nat × Nat)) (col : Nat → Nat) : Prop where
  holds : ∀ e ∈ E, col e.1 = col e.2
  only : ∀ R : Nat → Prop, (∀ e ∈ E, R e.1 ↔ R e.2) → ∀ x y, x < n → y < n → col x = col y → (R x ↔ R y)
theorem Joined.none (n : Nat) : Joined n [] (fun k => k) := by
  refine ⟨fun e he => (by cases he), fun R _ x y _ _ e => ?_⟩
  have e : x = y := e
  rw [e]
theorem Joined.one {n : Nat} {E : List (Nat × Nat)} {col : Nat → Nat} (h : Joined n E col) {a b : Nat} (ha : a < n) (hb : b < n) : Joined n ((a, b) :: E) (paint col a b) := by
  refine ⟨fun e he => ?_, fun R hR x y hx hy e => ?_⟩
  · rcases List.mem_cons.1 he with rfl | he
    · rw [paint_eq]; exact .inr ⟨.inl rfl, .inr rfl⟩
    · rw [paint_eq]; exact .inl (h.holds e he)
  · have hE := h.only R fun e he => hR e (List.mem_cons_of_mem _ he)
    have hab : R a ↔ R b := hR (a, b) List.mem_cons_self
    have hto : ∀ z, z < n → (col z = col a ∨ col z = col b) → (R z ↔ R a) := by
      rintro z hz (e | e)
      · exact hE z a hz ha e
      · exact (hE z b hz hb e).trans hab.symm
    rcases (paint_eq _ _ _ _ _).1 e with e | ⟨e1, e2⟩
    · exact hE x y hx hy e
    · exact (hto x hx e1).trans (hto y hy e2).symm
theorem Joined.ker {n : Nat} {E F : List (Nat × Nat)} {c d : Nat → Nat} (h : Joined n E c) (k : Joined n F d) (hEF : ∀ R : Nat → Prop, (∀ e ∈ E, R e.1 ↔ R e.2) ↔ (∀ e ∈ F, R e.1 ↔ R e.2)) : Ker n c d := by
  intro i j hi hj
  constructor
  · intro e
    exact ((h.only (fun z => d z = d j) ((hEF (fun z => d z = d j)).2 fun e he => by show d e.1 = d j ↔ d e.2 = d j; rw [k.holds e he]) i j hi hj e).2 rfl)
  · intro e
    exact ((k.only (fun z => c z = c j) ((hEF (fun z => c z = c j)).1 fun e he => by show c e.1 = c j ↔ c e.2 = c j; rw [h.holds e he]) i j hi hj e).2 rfl)

/-- The first one of a color. -/
theorem first_of (n : Nat) (col : Nat → Nat) (x : Nat) (hx : x < n) : ∃ i, i < n ∧ col i = col x ∧ ∀ j, j < i → col j ≠ col i := by
  induction x using Nat.strongRecOn with
  | ind x ih =>
    by_cases h : ∃ j, j < x ∧ col j = col x
    · obtain ⟨j, hj, e⟩ := h
      obtain ⟨i, hi, ei, hf⟩ := ih j hj (by omega)
      exact ⟨i, hi, ei.trans e, hf⟩
    · exact ⟨x, hx, rfl, fun j hj e => h ⟨j, hj, e⟩⟩
def fst_ (col : Nat → Nat) (i : Nat) : Bool := (List.range i).all fun j => !(col j == col i)
theorem fst_iff (col : Nat → Nat) (i : Nat) : fst_ col i = true ↔ ∀ j, j < i → col j ≠ col i := by
  unfold fst_
  simp only [List.all_eq_true, List.mem_range, Bool.not_eq_true', beq_eq_false_iff_ne, ne_eq]
theorem cnt_eq (n : Nat) (col : Nat → Nat) : cnt n col = (List.range n).countP (fst_ col) := rfl
theorem countP_one {n m : Nat} (hm : m < n) : (List.range n).countP (fun k => k == m) = 1 := by
  have : (List.range n).countP (fun k => k == m) = (List.range n).count m := rfl
  rw [this, List.Nodup.count List.nodup_range, if_pos (List.mem_range.2 hm)]
/-- A color fewer. -/
theorem cnt_paint {n : Nat} {col : Nat → Nat} {a b : Nat} (ha : a < n) (hb : b < n) (hne : col a ≠ col b) : cnt n col = cnt n (paint col a b) + 1 := by
  obtain ⟨i, hi, ei, fi⟩ := first_of n col a ha
  obtain ⟨j, hj, ej, fj⟩ := first_of n col b hb
  have hij : i ≠ j := fun e => hne (by rw [← ei, ← ej, e])
  -- the greater one of the two first ones is a first one no more
  have key : ∀ k, k < n → (fst_ col k = (fst_ (paint col a b) k || k == max i j) ∧ ¬ (fst_ (paint col a b) k = true ∧ (k == max i j) = true)) := by
    intro k hk
    have hmaxno : ¬ (fst_ (paint col a b) (max i j) = true) := by
      intro h
      have h := (fst_iff _ _).1 h (min i j) (by omega)
      apply h
      rw [paint_eq]
      refine .inr ?_
      rcases Nat.le_total i j with e | e
      · rw [Nat.min_eq_left e, Nat.max_eq_right e]; exact ⟨.inl ei, .inr ej⟩
      · rw [Nat.min_eq_right e, Nat.max_eq_left e]; exact ⟨.inr ej, .inl ei⟩
    refine ⟨?_, fun ⟨h1, h2⟩ => hmaxno (by rw [beq_iff_eq] at h2; rwa [h2] at h1)⟩
    rw [Bool.eq_iff_iff, Bool.or_eq_true, beq_iff_eq, fst_iff, fst_iff]
    constructor
    · intro h
      by_cases hm : k = max i j
      · exact .inr hm
      · left
        intro l hl e
        rcases (paint_eq _ _ _ _ _).1 e with e | ⟨e1, e2⟩
        · exact h l hl e
        · -- k is the first one of a or of b
          have hki : k = i ∨ k = j := by
            rcases e2 with e2 | e2
            · left
              rcases Nat.lt_trichotomy k i with x | x | x
              · exact absurd (e2.trans ei.symm) (fi k x)
              · exact x
              · exact absurd (ei.trans e2.symm) (h i x)
            · right
              rcases Nat.lt_trichotomy k j with x | x | x
              · exact absurd (e2.trans ej.symm) (fj k x)
              · exact x
              · exact absurd (ej.trans e2.symm) (h j x)
          have hlm : l < i ∧ l < j := by omega
          rcases e1 with e1 | e1
          · exact fi l hlm.1 (e1.trans ei.symm)
          · exact fj l hlm.2 (e1.trans ej.symm)
    · rintro (h | h)
      · intro l hl e
        exact h l hl ((paint_eq _ _ _ _ _).2 (.inl e))
      · rcases Nat.le_total i j with e | e
        · rw [Nat.max_eq_right e] at h; rw [h]; exact fj
        · rw [Nat.max_eq_left e] at h; rw [h]; exact fi
  rw [cnt_eq, cnt_eq]
  have := countP_two (fst_ (paint col a b)) (fun k => k == max i j) (fst_ col) (List.range n) fun k hk => key k (List.mem_range.1 hk)
  rw [this, countP_one (by omega)]
theorem cnt_alone (n : Nat) (col : Nat → Nat) (h : ∀ i j, i < n → j < n → col i = col j → i = j) : cnt n col = n := by
  rw [cnt_eq]
  have : (List.range n).countP (fst_ col) = (List.range n).length := by
    rw [List.countP_eq_length]
    intro k hk
    have hk := List.mem_range.1 hk
    rw [fst_iff]
    intro j hj e
    have := h j k (by omega) hk e
    omega
  rw [this, List.length_range]

/-- From one on, by the next one each, till another one. -/
inductive Pth (nx : Nat → Nat) : Nat → List Nat → Nat → Prop
  | nil (a : Nat) : Pth nx a [] a
  | cons {a b : Nat} {L : List Nat} (h : Pth nx (nx a) L b) : Pth nx a (a :: L) b
theorem Pth.app {nx : Nat → Nat} {a b c : Nat} {L M : List Nat} (h : Pth nx a L b) (g : Pth nx b M c) : Pth nx a (L ++ M) c := by
  induction h with
  | nil a => exact g
  | cons h ih => exact .cons (ih g)
theorem Pth.cut {nx : Nat → Nat} {L1 : List Nat} : ∀ {a b c : Nat} {L2 : List Nat}, Pth nx a (L1 ++ b :: L2) c → Pth nx a L1 b ∧ Pth nx b (b :: L2) c := by
  induction L1 with
  | nil =>
    intro a b c L2 h
    cases h with
    | cons h => exact ⟨.nil _, .cons h⟩
  | cons x L1 ih =>
    intro a b c L2 h
    cases h with
    | cons h => obtain ⟨h1, h2⟩ := ih h; exact ⟨.cons h1, h2⟩
theorem Pth.same {nx ny : Nat → Nat} {a b : Nat} {L : List Nat} (h : Pth nx a L b) : (∀ k ∈ L, ny k = nx k) → Pth ny a L b := by
  induction h with
  | nil a => intro _; exact .nil _
  | @cons a b L h ih =>
    intro hk
    refine .cons ?_
    rw [hk a List.mem_cons_self]
    exact ih fun k hm => hk k (List.mem_cons_of_mem _ hm)
/-- The ring of a set, from one of it on. -/
def Ring (n : Nat) (nx col : Nat → Nat) (i : Nat) (L : List Nat) : Prop := Pth nx i L i ∧ L ≠ [] ∧ L.Nodup ∧ ∀ j, j ∈ L ↔ (j < n ∧ col j = col i)
def Rings (n : Nat) (nx col : Nat → Nat) : Prop := ∀ i, i < n → ∃ L, Ring n nx col i L
theorem Ring.next {n : Nat} {nx col : Nat → Nat} {i : Nat} {L : List Nat} (h : Ring n nx col i L) : ∃ M, L = i :: M ∧ Pth nx (nx i) M i := by
  obtain ⟨h, hne, _⟩ := h
  cases h with
  | nil => exact absurd rfl hne
  | cons h => exact ⟨_, rfl, h⟩
theorem Pth.head {nx : Nat → Nat} {a b : Nat} {L : List Nat} (h : Pth nx a L b) : a = b ∧ L = [] ∨ ∃ M, L = a :: M := by
  cases h with
  | nil => exact .inl ⟨rfl, rfl⟩
  | cons h => exact .inr ⟨_, rfl⟩
theorem Ring.nxlt {n : Nat} {nx col : Nat → Nat} {i : Nat} {L : List Nat} (h : Ring n nx col i L) : nx i < n ∧ col (nx i) = col i := by
  obtain ⟨M, rfl, hp⟩ := h.next
  rcases hp.head with ⟨e, _⟩ | ⟨M', rfl⟩
  · rw [e]; exact ⟨((h.2.2.2 i).1 List.mem_cons_self).1, rfl⟩
  · exact (h.2.2.2 _).1 (by simp)
theorem Rings.ker {n : Nat} {nx c d : Nat → Nat} (h : Rings n nx c) (k : Ker n c d) : Rings n nx d := by
  intro i hi
  obtain ⟨L, h1, h2, h3, h4⟩ := h i hi
  refine ⟨L, h1, h2, h3, fun j => ?_⟩
  rw [h4 j]
  constructor
  · rintro ⟨hj, e⟩; exact ⟨hj, (k j i hj hi).1 e⟩
  · rintro ⟨hj, e⟩; exact ⟨hj, (k j i hj hi).2 e⟩
theorem Rings.alone (n : Nat) : Rings n (fun k => k) fun k => k := by
  intro i hi
  refine ⟨[i], .cons (.nil _), by simp, by simp, fun j => ?_⟩
  simp only [List.mem_singleton]
  constructor
  · rintro rfl; exact ⟨hi, rfl⟩
  · exact fun h => h.2
def swp (nx : Nat → Nat) (a b : Nat) : Nat → Nat := upd (upd nx a (nx b)) b (nx a)
theorem swp_comm (nx : Nat → Nat) {a b : Nat} (h : a ≠ b) : swp nx a b = swp nx b a := by
  funext k
  unfold swp upd
  by_cases h1 : k = b <;> by_cases h2 : k = a <;> simp_all
theorem ring_join {n : Nat} {nx col : Nat → Nat} (h : Rings n nx col) {a b i : Nat} (hi : i < n) (ha : a < n) (hb : b < n) (hne : col a ≠ col b) (hia : col i = col a) : ∃ L, Ring n (swp nx a b) (paint col a b) i L := by
  obtain ⟨L, hL, hLne, hLd, hLm⟩ := h i hi
  obtain ⟨M, hM⟩ := h b hb
  have hMm := hM.2.2.2
  have hMd := hM.2.2.1
  obtain ⟨M2, rfl, hp⟩ := hM.next
  have haL : a ∈ L := (hLm a).2 ⟨ha, hia.symm⟩
  obtain ⟨L1, L2, rfl⟩ := List.append_of_mem haL
  obtain ⟨h1, h2⟩ := hL.cut
  have h3 : Pth nx (nx a) L2 i := by cases h2 with | cons h => exact h
  have hab : a ≠ b := fun e => hne (by rw [e])
  have hdis : ∀ k, k ∈ L1 ++ a :: L2 → k ∉ b :: M2 := fun k hk hk2 => hne (by
    have e1 := ((hLm k).1 hk).2
    have e2 := ((hMm k).1 hk2).2
    rw [← hia, ← e1, e2])
  have hLd' := List.nodup_append.1 hLd
  have haL1 : a ∉ L1 := fun hx => hLd'.2.2 a hx a List.mem_cons_self rfl
  have haL2 : a ∉ L2 := (List.nodup_cons.1 hLd'.2.1).1
  have hbM2 : b ∉ M2 := (List.nodup_cons.1 hMd).1
  have sw : ∀ k, k ≠ a → k ≠ b → swp nx a b k = nx k := fun k x y => by unfold swp; rw [upd_other _ _ y, upd_other _ _ x]
  have swa : swp nx a b a = nx b := by unfold swp; rw [upd_other _ _ hab, upd_same]
  have swb : swp nx a b b = nx a := by unfold swp; rw [upd_same]
  have g1 : Pth (swp nx a b) i L1 a := h1.same fun k hk => sw k (fun e => haL1 (e ▸ hk)) fun e => hdis k (by simp [hk]) (by rw [e]; exact List.mem_cons_self)
  have g3 : Pth (swp nx a b) (nx a) L2 i := h3.same fun k hk => sw k (fun e => haL2 (e ▸ hk)) fun e => hdis k (by simp [hk]) (by rw [e]; exact List.mem_cons_self)
  have g2 : Pth (swp nx a b) (nx b) M2 b := hp.same fun k hk => sw k (fun e => hdis a (by simp) (by rw [e] at hk; exact List.mem_cons_of_mem _ hk)) fun e => hbM2 (e ▸ hk)
  have ga : Pth (swp nx a b) a [a] (nx b) := by
    refine .cons ?_
    rw [swa]; exact .nil _
  have gb : Pth (swp nx a b) b [b] (nx a) := by
    refine .cons ?_
    rw [swb]; exact .nil _
  refine ⟨L1 ++ ([a] ++ (M2 ++ ([b] ++ L2))), g1.app (ga.app (g2.app (gb.app g3))), by simp, ?_, fun j => ?_⟩
  · have hperm : (L1 ++ ([a] ++ (M2 ++ ([b] ++ L2)))).Perm ((L1 ++ a :: L2) ++ (b :: M2)) := by
      refine (List.Perm.append_left L1 ?_).trans (by rw [List.append_assoc])
      show (a :: (M2 ++ (b :: L2))).Perm (a :: (L2 ++ (b :: M2)))
      refine List.Perm.cons _ ?_
      refine List.perm_append_comm.trans ?_
      show (b :: (L2 ++ M2)).Perm _
      exact List.perm_middle.symm
    refine (List.Perm.nodup_iff hperm).2 ?_
    rw [List.nodup_append]
    exact ⟨hLd, hMd, fun x hx y hy e => hdis x hx (e ▸ hy)⟩
  · have e : (j ∈ L1 ++ ([a] ++ (M2 ++ ([b] ++ L2)))) ↔ (j ∈ L1 ++ a :: L2 ∨ j ∈ b :: M2) := by
      simp only [List.mem_append, List.mem_cons, List.not_mem_nil, or_false]
      constructor
      · rintro (h | h | h | h | h)
        · exact .inl (.inl h)
        · exact .inl (.inr (.inl h))
        · exact .inr (.inr h)
        · exact .inr (.inl h)
        · exact .inl (.inr (.inr h))
      · rintro ((h | h | h) | h | h)
        · exact .inl h
        · exact .inr (.inl h)
        · exact .inr (.inr (.inr (.inr h)))
        · exact .inr (.inr (.inr (.inl h)))
        · exact .inr (.inr (.inl h))
    rw [e, hLm, hMm, paint_eq, hia]
    constructor
    · rintro (⟨h, e⟩ | ⟨h, e⟩)
      · exact ⟨h, .inl e⟩
      · exact ⟨h, .inr ⟨.inr e, .inl rfl⟩⟩
    · rintro ⟨h, e | ⟨e | e, _⟩⟩
      · exact .inl ⟨h, e⟩
      · exact .inl ⟨h, e⟩
      · exact .inr ⟨h, e⟩
theorem Rings.join {n : Nat} {nx col : Nat → Nat} (h : Rings n nx col) {a b : Nat} (ha : a < n) (hb : b < n) (hne : col a ≠ col b) : Rings n (swp nx a b) (paint col a b) := by
  intro i hi
  by_cases h1 : col i = col a
  · exact ring_join h hi ha hb hne h1
  · by_cases h2 : col i = col b
    · obtain ⟨L, hL1, hL2, hL3, hL4⟩ := ring_join h hi hb ha (Ne.symm hne) h2
      rw [swp_comm nx (fun e => hne (by rw [e]))]
      refine ⟨L, hL1, hL2, hL3, fun j => (hL4 j).trans ?_⟩
      rw [paint_eq, paint_eq]
      constructor <;> (rintro ⟨hj, e | ⟨e, f⟩⟩; exact ⟨hj, .inl e⟩; exact ⟨hj, .inr ⟨e.symm, f.symm⟩⟩)
    · obtain ⟨L, hL1, hL2, hL3, hL4⟩ := h i hi
      refine ⟨L, hL1.same fun k hk => ?_, hL2, hL3, fun j => ?_⟩
      · have e := ((hL4 k).1 hk).2
        unfold swp
        rw [upd_other _ _ (fun x => h2 (by rw [← e, x])), upd_other _ _ (fun x => h1 (by rw [← e, x]))]
      · rw [hL4 j, paint_eq]
        constructor
        · rintro ⟨hj, e⟩; exact ⟨hj, .inl e⟩
        · rintro ⟨hj, e | ⟨_, e | e⟩⟩
          · exact ⟨hj, e⟩
          · exact absurd e h1
          · exact absurd e h2
end Go.Proofs.Ytbnpmeaaaecciaa.Un
/- A forest in memory: rows of ints, and the struct that holds them. -/
namespace Go.Proofs.Ytbnpmeaaaecciaa.Un
open Go.RowKit

/-- What the set S has not stays. -/
structure Else (S : Nat → Prop) (w w' : World) : Prop where
  os : w'.os = w.os
  tape : w'.tape = w.tape
  output : w'.output = w.output
  size : w.heap.size ≤ w'.heap.size
  block : ∀ k, k < w.heap.size → ¬ S k → w'.heap[k]? = w.heap[k]?
theorem Else.refl (S : Nat → Prop) (w : World) : Else S w w := ⟨rfl, rfl, rfl, Nat.le_refl _, fun _ _ _ => rfl⟩
theorem Else.trans {S : Nat → Prop} {a b c : World} (h : Else S a b) (k : Else S b c) : Else S a c :=
  ⟨k.os.trans h.os, k.tape.trans h.tape, k.output.trans h.output, Nat.le_trans h.size k.size, fun i hi hs => (k.block i (Nat.lt_of_lt_of_le hi h.size) hs).trans (h.block i hi hs)⟩
theorem Else.mono {S T : Nat → Prop} {a b : World} (h : Else S a b) (hst : ∀ k, S k → T k) : Else T a b :=
  ⟨h.os, h.tape, h.output, h.size, fun k hk ht => h.block k hk fun hs => ht (hst k hs)⟩
theorem Else.below {S : Nat → Prop} {a b : World} {B : Nat} (h : Else S a b) (hs : ∀ k, S k → B ≤ k) (hB : B ≤ a.heap.size) : Below B a b :=
  ⟨h.os, h.tape, h.output, h.size, fun k hk => h.block k (by omega) fun hx => by have := hs k hx; omega⟩
theorem Else.of_below {S : Nat → Prop} {a b : World} (h : Below a.heap.size a b) : Else S a b :=
  ⟨h.os, h.tape, h.output, h.size, fun k hk _ => h.block k hk⟩
theorem Else.set {S : Nat → Prop} (w : World) {p : Addr} (hp : S p.block) (u : Value) : Else S w (w.setCell p u) :=
  ⟨rfl, rfl, rfl, by simp [World.setCell], fun k _ hs => Below.heap_setCell _ _ _ _ (by rintro rfl; exact hs hp)⟩
theorem Else.alloc (S : Nat → Prop) (w : World) (o : Obj) : Else S w (w.alloc o) :=
  ⟨rfl, rfl, rfl, by simp, fun k hk _ => Below.heap_alloc _ _ _ hk⟩
theorem Else.grown {S : Nat → Prop} {w w' : World} {row : Option Nat} (h : w.grownBy w' row) (hr : ∀ k, row = some k → S k) : Else S w w' :=
  ⟨h.os, h.tape, h.output, h.size, fun k hk hs => h.block k hk fun e => hs (hr k e.symm)⟩

def rowI (n : Nat) (f : Nat → Nat) : List Value := (List.range n).map fun k => Value.int .i64 (f k : Int)
theorem rowI_len (n : Nat) (f : Nat → Nat) : (rowI n f).length = n := by simp [rowI]
theorem rowI_get {n : Nat} {f : Nat → Nat} {k : Nat} (h : k < n) : (rowI n f)[k]? = some (.int .i64 (f k : Int)) := by simp [rowI, h]
theorem rowI_set {n : Nat} {f : Nat → Nat} {i : Nat} (v : Nat) : (rowI n f).set i (.int .i64 (v : Int)) = rowI n (upd f i v) := by
  apply List.ext_getElem?
  intro k
  rw [List.getElem?_set, rowI_len]
  by_cases hk : k < n
  · rw [rowI_get hk, rowI_get hk]
    by_cases e : i = k
    · subst e; rw [if_pos rfl, if_pos hk, upd_same]
    · rw [if_neg e, upd_other _ _ (Ne.symm e)]
  · rw [List.getElem?_eq_none (by rw [rowI_len]; omega), List.getElem?_eq_none (by rw [rowI_len]; omega)]
    split
    · rw [if_neg (by omega)]
    · rfl
theorem rowI_snoc (n : Nat) (f : Nat → Nat) : rowI (n + 1) f = rowI n f ++ [.int .i64 (f n : Int)] := by
  simp [rowI, List.range_succ]
theorem rowI_congr {n : Nat} {f g : Nat → Nat} (h : ∀ k, k < n → f k = g k) : rowI n f = rowI n g := by
  unfold rowI
  apply List.map_congr_left
  intro k hk
  rw [h k (List.mem_range.1 hk)]

/-- A forest, as it lies. -/
structure FM (S : Nat → Prop) (w : World) (b n : Nat) (A Z X : Value) (par sz nx : Nat → Nat) (sets steps : Int) : Prop where
  blk : w.heap[b]? = some (Obj.cells #[A, Z, X, .int .i64 sets, .int .i64 steps] 149)
  sb : S b
  ra : w.ownsRow 0 3 1 A n (rowI n par)
  rz : w.ownsRow 0 3 1 Z n (rowI n sz)
  rx : w.ownsRow 0 3 1 X n (rowI n nx)
  sa : ∀ k, A.ownBlock = some k → S k ∧ Z.ownBlock ≠ some k ∧ X.ownBlock ≠ some k
  sz_ : ∀ k, Z.ownBlock = some k → S k ∧ X.ownBlock ≠ some k
  sx : ∀ k, X.ownBlock = some k → S k
theorem own_shape {w : World} {base : Nat} {e : TypeId} {size : Nat} {v : Value} {n : Nat} {xs : List Value} (h : w.ownsRow base e size v n xs) (hn : 0 < n) : ∃ g c, v = .slice (some ⟨g, 0, none⟩) n c ∧ n ≤ c ∧ g < w.heap.size := by
  rcases h.2 with ⟨_, h0⟩ | ⟨g, cap, cur, hv, _, hh, hc, _⟩
  · omega
  · exact ⟨g, cap, hv, hc, (Array.getElem?_eq_some_iff.1 hh).1⟩
section
variable {S : Nat → Prop} {w : World} {b n : Nat} {A Z X : Value} {par sz nx : Nat → Nat} {sets steps : Int}
theorem FM.lt (h : FM S w b n A Z X par sz nx sets steps) : b < w.heap.size := (Array.getElem?_eq_some_iff.1 h.blk).1
theorem FM.cells (h : FM S w b n A Z X par sz nx sets steps) : w.cell? ⟨b, 0, none⟩ = some A ∧ w.cell? ⟨b, 1, none⟩ = some Z ∧ w.cell? ⟨b, 2, none⟩ = some X ∧ w.cell? ⟨b, 3, none⟩ = some (.int .i64 sets) ∧ w.cell? ⟨b, 4, none⟩ = some (.int .i64 steps) :=
  ⟨cell_of_row w b 0 _ _ _ h.blk, cell_of_row w b 1 _ _ _ h.blk, cell_of_row w b 2 _ _ _ h.blk, cell_of_row w b 3 _ _ _ h.blk, cell_of_row w b 4 _ _ _ h.blk⟩
theorem FM.frozen (h : FM S w b n A Z X par sz nx sets steps) (off : Nat) : w.frozen? ⟨b, off, none⟩ = false := by simp [World.frozen?, h.blk]
theorem row_ne {v : Value} {m : Nat} {xs : List Value} {T T' : TypeId} {cs : Array Value} (h : w.ownsRow 0 T 1 v m xs) (hb : w.heap[b]? = some (Obj.cells cs T')) (hne : T ≠ T') : v.ownBlock ≠ some b := by
  intro e
  rcases h.2 with ⟨rfl, _⟩ | ⟨g, cap, cur, rfl, _, hg, _⟩
  · cases e
  · injection e with e
    have e : g = b := e
    subst e
    rw [hg] at hb
    injection hb with hb
    injection hb with _ hb _
    exact hne hb
theorem FM.keep {S' : Nat → Prop} {w' : World} (h : FM S w b n A Z X par sz nx sets steps) (he : Else S' w w') (hd : ∀ k, S k → ¬ S' k) : FM S w' b n A Z X par sz nx sets steps := by
  have hr : ∀ {v : Value} {f : Nat → Nat}, w.ownsRow 0 3 1 v n (rowI n f) → (∀ k, v.ownBlock = some k → S k) → w'.ownsRow 0 3 1 v n (rowI n f) := by
    intro v f ho hs
    refine ⟨ho.1, ?_⟩
    rcases ho.2 with h2 | ⟨g, cap, cur, hv, hg, hh, r⟩
    · exact .inl h2
    · exact .inr ⟨g, cap, cur, hv, hg, (he.block g (Array.getElem?_eq_some_iff.1 hh).1 (hd g (hs g (by rw [hv]; rfl)))).trans hh, r⟩
  exact ⟨(he.block b h.lt (hd b h.sb)).trans h.blk, h.sb, hr h.ra fun k hk => (h.sa k hk).1, hr h.rz fun k hk => (h.sz_ k hk).1, hr h.rx h.sx, h.sa, h.sz_, h.sx⟩
theorem FM.below {w' : World} (h : FM S w b n A Z X par sz nx sets steps) (hb : Below w.heap.size w w') : FM S w' b n A Z X par sz nx sets steps :=
  h.keep (Else.of_below (S := fun _ => False) hb) fun _ _ => id
/-- Stores into the struct. -/
theorem FM.rows_set (h : FM S w b n A Z X par sz nx sets steps) (off : Nat) (u : Value) : (w.setCell ⟨b, off, none⟩ u).ownsRow 0 3 1 A n (rowI n par) ∧ (w.setCell ⟨b, off, none⟩ u).ownsRow 0 3 1 Z n (rowI n sz) ∧ (w.setCell ⟨b, off, none⟩ u).ownsRow 0 3 1 X n (rowI n nx) :=
  ⟨ownsRow_setCell_other h.ra (row_ne h.ra h.blk (by decide)) u, ownsRow_setCell_other h.rz (row_ne h.rz h.blk (by decide)) u, ownsRow_setCell_other h.rx (row_ne h.rx h.blk (by decide)) u⟩
theorem FM.set3 (h : FM S w b n A Z X par sz nx sets steps) (s' : Int) : FM S (w.setCell ⟨b, 3, none⟩ (.int .i64 s')) b n A Z X par sz nx s' steps :=
  ⟨heap_setCell_same w b 3 _ _ _ h.blk, h.sb, (h.rows_set 3 _).1, (h.rows_set 3 _).2.1, (h.rows_set 3 _).2.2, h.sa, h.sz_, h.sx⟩
theorem FM.set4 (h : FM S w b n A Z X par sz nx sets steps) (s' : Int) : FM S (w.setCell ⟨b, 4, none⟩ (.int .i64 s')) b n A Z X par sz nx sets s' :=
  ⟨heap_setCell_same w b 4 _ _ _ h.blk, h.sb, (h.rows_set 4 _).1, (h.rows_set 4 _).2.1, (h.rows_set 4 _).2.2, h.sa, h.sz_, h.sx⟩
theorem blk_set {g : Nat} (h : FM S w b n A Z X par sz nx sets steps) (hg : b ≠ g) (i : Nat) (u : Value) : (w.setCell ⟨g, i, none⟩ u).heap[b]? = some (Obj.cells #[A, Z, X, .int .i64 sets, .int .i64 steps] 149) :=
  (Below.heap_setCell _ _ _ _ (by simpa using hg)).trans h.blk
theorem FM.setA {ga c : Nat} (h : FM S w b n (.slice (some ⟨ga, 0, none⟩) n c) Z X par sz nx sets steps) (i v : Nat) : FM S (w.setCell ⟨ga, i, none⟩ (.int .i64 v)) b n (.slice (some ⟨ga, 0, none⟩) n c) Z X (upd par i v) sz nx sets steps := by
  have hs := h.sa ga rfl
  refine ⟨blk_set h (fun e => row_ne h.ra h.blk (by decide) (by rw [e]; rfl)) i _, h.sb, ?_, ownsRow_setCell_other h.rz hs.2.1 _, ownsRow_setCell_other h.rx hs.2.2 _, h.sa, h.sz_, h.sx⟩
  rw [← rowI_set]
  exact (h.ra.stored i _).1
theorem FM.setZ {ga c : Nat} (h : FM S w b n A (.slice (some ⟨ga, 0, none⟩) n c) X par sz nx sets steps) (i v : Nat) : FM S (w.setCell ⟨ga, i, none⟩ (.int .i64 v)) b n A (.slice (some ⟨ga, 0, none⟩) n c) X par (upd sz i v) nx sets steps := by
  have hs := h.sz_ ga rfl
  refine ⟨blk_set h (fun e => row_ne h.rz h.blk (by decide) (by rw [e]; rfl)) i _, h.sb, ownsRow_setCell_other h.ra (fun e => (h.sa ga e).2.1 rfl) _, ?_, ownsRow_setCell_other h.rx hs.2 _, h.sa, h.sz_, h.sx⟩
  rw [← rowI_set]
  exact (h.rz.stored i _).1
theorem FM.setX {ga c : Nat} (h : FM S w b n A Z (.slice (some ⟨ga, 0, none⟩) n c) par sz nx sets steps) (i v : Nat) : FM S (w.setCell ⟨ga, i, none⟩ (.int .i64 v)) b n A Z (.slice (some ⟨ga, 0, none⟩) n c) par sz (upd nx i v) sets steps := by
  refine ⟨blk_set h (fun e => row_ne h.rx h.blk (by decide) (by rw [e]; rfl)) i _, h.sb, ownsRow_setCell_other h.ra (fun e => (h.sa ga e).2.2 rfl) _, ownsRow_setCell_other h.rz (fun e => (h.sz_ ga e).2 rfl) _, ?_, h.sa, h.sz_, h.sx⟩
  rw [← rowI_set]
  exact (h.rx.stored i _).1
end
end Go.Proofs.Ytbnpmeaaaecciaa.Un
/- union: Len, has, Sets, Steps; search. -/
namespace Go.Proofs.Ytbnpmeaaaecciaa.Un
open Go.RowKit

set_option maxRecDepth 100000 in
theorem len_any {S : Nat → Prop} {w : World} {b n : Nat} {A Z X : Value} {par sz nx : Nat → Nat} {sets steps : Int} (h : FM S w b n A Z X par sz nx sets steps) :
    Calls Try.prog 111 #[.pointer (some ⟨b, 0, none⟩)] w fun e w' => e = .returned (.int .i64 n) ∧ w' = w := by
  obtain ⟨c0, c1, c2, c3, c4⟩ := h.cells
  have hl := h.lt
  obtain ⟨A', c, rfl⟩ : ∃ A' c, A = .slice A' n c := by
    rcases h.ra.2 with ⟨hv, hn⟩ | ⟨g, cap, cur, hv, _⟩
    · exact ⟨none, 0, by rw [hv, hn]⟩
    · exact ⟨_, _, hv⟩
  clear h
  go_enter Try.func111, Try.ntmps111
  go_wp2_with fail
  go_ret
  exact ⟨rfl, rfl⟩
set_option maxRecDepth 100000 in
theorem steps_any {S : Nat → Prop} {w : World} {b n : Nat} {A Z X : Value} {par sz nx : Nat → Nat} {sets steps : Int} (h : FM S w b n A Z X par sz nx sets steps) :
    Calls Try.prog 93 #[.pointer (some ⟨b, 0, none⟩)] w fun e w' => e = .returned (.int .i64 steps) ∧ w' = w := by
  obtain ⟨c0, c1, c2, c3, c4⟩ := h.cells
  have hl := h.lt
  clear h
  go_enter Try.func93, Try.ntmps93
  go_wp2_with fail
  go_ret
  exact ⟨rfl, rfl⟩
set_option maxRecDepth 100000 in
theorem has_any {S : Nat → Prop} {w : World} {b n : Nat} {A Z X : Value} {par sz nx : Nat → Nat} {sets steps : Int} (h : FM S w b n A Z X par sz nx sets steps) (i : Int) :
    Calls Try.prog 106 #[.pointer (some ⟨b, 0, none⟩), .int .i64 i] w fun e w' => e = .returned (.bool (decide (0 ≤ i ∧ i < n))) ∧ w' = w := by
  by_cases hi : 0 ≤ i
  · have f1 : decide (0 ≤ i) = true := decide_eq_true hi
    go_enter Try.func106, Try.ntmps106
    go_wp2_with fail
    refine (len_any h).mono ?_
    rintro e w' ⟨rfl, rfl⟩
    go_wp2_with fail
    go_ret
    exact ⟨by simp [hi], rfl⟩
  · have f1 : decide (0 ≤ i) = false := decide_eq_false hi
    go_enter Try.func106, Try.ntmps106
    go_wp2_with fail
    go_ret
    exact ⟨rfl, rfl⟩
/-- A scope that begins with its label: what holds at every pass. -/
theorem wp_scope_from {P : Program} {a : Act} {w : World} {Q : Exit → Act → World → Prop} {r : Code} (l : Nat) (J : Act → World → Prop) (μ : Act → World → Nat)
    (h0 : J a w) (pass : ∀ a w, J a w → r.wp P (Exit.jump l (fun a' w' => J a' w' ∧ μ a' w' < μ a w) Q) a w) : (Code.scope ((Code.label l).seq r)).wp P Q a w := by
  refine wp_scope_jumps l J μ (rest := Code.skip.seq r) (by simp [findLabel]) (wp_seq (wp_label ?_)) fun a w h => wp_seq (wp_skip ?_)
  · refine wp_mono (pass a w h0) fun e a' w' h => ?_
    cases e <;> first | exact h | exact ⟨h.1, h.2.1⟩
  · refine wp_mono (pass a w h) fun e a' w' h => ?_
    cases e <;> exact h
def slotN : Value → Nat
  | .int _ q => q.toNat
  | _ => 0
/-- What search owes. -/
def SearchPost (S : Nat → Prop) (w : World) (b n : Nat) (A Z X : Value) (par sz nx col rk : Nat → Nat) (sets steps : Int) (i : Nat) (e : Ending) (w' : World) : Prop :=
  ∃ (par' : Nat → Nat) (r k : Nat), e = .returned (.int .i64 r) ∧ r < n ∧ par' r = r ∧ col r = col i ∧ (∀ j, j < n → (par' j = j ↔ par j = j)) ∧ UFr n par' sz col rk ∧ FM S w' b n A Z X par' sz nx sets (steps + k) ∧ 2 ^ k ≤ 2 * n ∧ Else S w w'
set_option maxRecDepth 100000 in
theorem search_any {S : Nat → Prop} {w : World} {b n : Nat} {A Z X : Value} {par sz nx col rk : Nat → Nat} {sets steps : Int} (h : FM S w b n A Z X par sz nx sets steps) (u : UFr n par sz col rk) (hn : n ≤ 1048576) (hst : 0 ≤ steps ∧ steps ≤ 1000000000000000) (i : Nat) (hi : i < n) :
    Calls Try.prog 107 #[.pointer (some ⟨b, 0, none⟩), .int .i64 i] w (SearchPost S w b n A Z X par sz nx col rk sets steps i) := by
  go_enter Try.func107, Try.ntmps107
  go_wp2
  refine wp_scope_from 0 (fun a' w' => ∃ (c : Nat) (par' : Nat → Nat) (k : Nat) (u5 u6 u7 u8 u9 u10 u11 u12 u13 u14 u15 u16 u17 u18 u19 u20 u21 u22 u23 u24 u25 u26 u27 u28 u29 u30 u31 u32 u33 u34 u35 u36 u37 u38 u39 : Value), a' = { tmps := #[.pointer (some ⟨b, 0, none⟩), .int .i64 c, undef, undef, .int .i64 0, u5, u6, u7, u8, u9, u10, u11, u12, u13, u14, u15, u16, u17, u18, u19, u20, u21, u22, u23, u24, u25, u26, u27, u28, u29, u30, u31, u32, u33, u34, u35, u36, u37, u38, u39], defers := [] } ∧
    c < n ∧ col c = col i ∧ (∀ j, j < n → (par' j = j ↔ par j = j)) ∧ UFr n par' sz col rk ∧ FM S w' b n A Z X par' sz nx sets (steps + k) ∧ rk i + k ≤ rk c ∧ Else S w w') (fun a' _ => (1048577 - rk (slotN (a'.tmps.getD 1 undef)))) ?_ ?_
  · exact ⟨i, par, 0, _, _, _, _, _, _, _, _, _, _, _, _, _, _, _, _, _, _, _, _, _, _, _, _, _, _, _, _, _, _, _, _, _, _, _, rfl, hi, rfl, fun _ _ => Iff.rfl, u, by simpa using h, Nat.le_refl _, Else.refl _ _⟩
  · rintro a' w' ⟨c, par', k, u5, u6, u7, u8, u9, u10, u11, u12, u13, u14, u15, u16, u17, u18, u19, u20, u21, u22, u23, u24, u25, u26, u27, u28, u29, u30, u31, u32, u33, u34, u35, u36, u37, u38, u39, rfl, hc, hcol, hroots, u', h', hk, he⟩
    obtain ⟨c0, c1, c2, c3, c4⟩ := h'.cells
    have hl := h'.lt
    obtain ⟨ga, ca, rfl, hga, hgl⟩ := own_shape h'.ra (by omega)
    have r1 : w'.cell? ⟨ga, c, none⟩ = some (.int .i64 (par' c)) := (h'.ra.cellAt c (by omega)).trans (rowI_get hc)
    have hp := u'.lt c hc
    have r2 : w'.cell? ⟨ga, par' c, none⟩ = some (.int .i64 (par' (par' c))) := (h'.ra.cellAt (par' c) (by omega)).trans (rowI_get hp)
    have hgb : ga ≠ b := fun e => row_ne h'.ra h'.blk (by decide) (by rw [e]; rfl)
    have hz : w'.frozen? ⟨b, 4, none⟩ = false := h'.frozen 4
    have hz2 : w'.frozen? ⟨ga, c, none⟩ = false := h'.ra.frozenAt c
    have hb := u'.small c hc
    have hkk : 2 ^ (k + 1) ≤ 2 * n := Nat.le_trans (Nat.pow_le_pow_right (by omega) (show k + 1 ≤ rk c + 1 by omega)) (by rw [Nat.pow_succ]; omega)
    have hk20 : k ≤ 20 := by
      have h1 : 2 ^ k ≤ n := by rw [Nat.pow_succ] at hkk; omega
      refine Nat.le_of_not_lt fun hx => ?_
      have : 2 ^ 21 ≤ 2 ^ k := Nat.pow_le_pow_right (by omega) hx
      omega
    have hS1 := h'.set4 (steps + (k : Int) + 1)
    have hE1 := he.trans (Else.set w' (p := ⟨b, 4, none⟩) h'.sb (.int .i64 (steps + (k : Int) + 1)))
    have hsga : S ga := (h'.sa ga rfl).1
    go_wp2
    · rename_i hne
      go_step3
      have hne2 : par' (par' c) ≠ par' c := fun e => by rw [e] at hne; simp at hne
      obtain ⟨q1, q2, q3⟩ := u'.halve hc hne2
      refine ⟨rfl, ⟨par' (par' c), upd par' c (par' (par' c)), k + 1, _, _, _, _, _, _, _, _, _, _, _, _, _, _, _, _, _, _, _, _, _, _, _, _, _, _, _, _, _, _, _, _, _, _, _, rfl, u'.lt _ hp, ?_, fun j hj => (q2 j hj).trans (hroots j hj), q1, ?_, by omega, hE1.trans (Else.set _ hsga _)⟩, ?_⟩
      · rw [u'.colp _ hp, u'.colp _ hc]; exact hcol
      · rw [show steps + ((k + 1 : Nat) : Int) = steps + (k : Int) + 1 by omega]; exact hS1.setA c (par' (par' c))
      · have := u'.small (par' (par' c)) (u'.lt _ hp)
        have hx : rk (par' (par' c)) < 1048577 := Nat.lt_of_lt_of_le (Nat.lt_two_pow_self) (by omega)
        show 1048577 - rk (par' (par' c)) < 1048577 - rk c
        omega
    · rename_i heq
      have heq2 : par' (par' c) = par' c := by
        refine Classical.byContradiction fun hx => ?_
        have hx2 : (↑(par' (par' c)) : Int) ≠ ↑(par' c) := by omega
        simp [hx2] at heq
      simp only [Exit.jump]
      go_ret
      exact ⟨par', par' c, k + 1, rfl, hp, heq2, (u'.colp _ hc).trans hcol, hroots, u', (by rw [show steps + ((k + 1 : Nat) : Int) = steps + (k : Int) + 1 by omega]; exact hS1), hkk, hE1⟩
end Go.Proofs.Ytbnpmeaaaecciaa.Un
/- union: Join, Same, Root. -/
namespace Go.Proofs.Ytbnpmeaaaecciaa.Un
open Go.RowKit

/-- A forest in memory, whose sets are the colors', and whose roots these are. -/
def UFo (S : Nat → Prop) (w : World) (b n : Nat) (col ro : Nat → Nat) (steps : Int) : Prop :=
  ∃ (A Z X : Value) (par sz nx rk : Nat → Nat), FM S w b n A Z X par sz nx (cnt n col : Nat) steps ∧ UFr n par sz col rk ∧ Rings n nx col ∧ n ≤ 1048576 ∧ ∀ i, i < n → ro i < n ∧ par (ro i) = ro i ∧ col (ro i) = col i
def UF (S : Nat → Prop) (w : World) (b n : Nat) (col : Nat → Nat) (steps : Int) : Prop := ∃ ro, UFo S w b n col ro steps
theorem UFo.keep {S S' : Nat → Prop} {w w' : World} {b n : Nat} {col ro : Nat → Nat} {steps : Int} (h : UFo S w b n col ro steps) (he : Else S' w w') (hd : ∀ k, S k → ¬ S' k) : UFo S w' b n col ro steps := by
  obtain ⟨A, Z, X, par, sz, nx, rk, h1, h2⟩ := h
  exact ⟨A, Z, X, par, sz, nx, rk, h1.keep he hd, h2⟩
theorem UFo.below {S : Nat → Prop} {w w' : World} {b n : Nat} {col ro : Nat → Nat} {steps : Int} (h : UFo S w b n col ro steps) (hb : Below w.heap.size w w') : UFo S w' b n col ro steps :=
  h.keep (Else.of_below (S := fun _ => False) hb) fun _ _ => id
theorem UFo.ker {S : Nat → Prop} {w : World} {b n : Nat} {col d ro : Nat → Nat} {steps : Int} (h : UFo S w b n col ro steps) (k : Ker n col d) : UFo S w b n d ro steps := by
  obtain ⟨A, Z, X, par, sz, nx, rk, h1, h2, h3, h4, h5⟩ := h
  exact ⟨A, Z, X, par, sz, nx, rk, k.cnt ▸ h1, h2.ker k, h3.ker k, h4, fun i hi => ⟨(h5 i hi).1, (h5 i hi).2.1, (k _ _ (h5 i hi).1 hi).1 (h5 i hi).2.2⟩⟩
def dg (n : Nat) : Nat := Nat.log2 n + 1
theorem dg_of {n k : Nat} (hn : 0 < n) (h : 2 ^ k ≤ 2 * n) : k ≤ dg n := by
  unfold dg
  cases k with
  | zero => omega
  | succ k =>
    rw [Nat.pow_succ] at h
    have := (Nat.le_log2 (n := n) (k := k) (by omega)).2 (by omega)
    omega
theorem dg_le {n : Nat} (h : n ≤ 1048576) : dg n ≤ 21 := by
  unfold dg
  by_cases h0 : n = 0
  · subst h0; decide
  · have : ¬ (21 ≤ Nat.log2 n) := fun hx => by
      have := (Nat.le_log2 (n := n) (k := 21) h0).1 hx
      omega
    omega
theorem cnt_le (n : Nat) (col : Nat → Nat) : cnt n col ≤ n := by
  have := List.countP_le_length (p := fst_ col) (l := List.range n)
  rw [cnt_eq]; simpa using this
theorem paint_same {col : Nat → Nat} {a b : Nat} (h : col a = col b) : paint col a b = col := by
  funext k
  unfold paint
  split
  · rename_i e; rw [h, e]
  · rfl
/-- A search, as one call of the forest. -/
theorem search_uf {S : Nat → Prop} {w : World} {b n : Nat} {col ro : Nat → Nat} {steps : Int} (h : UFo S w b n col ro steps) (hst : 0 ≤ steps ∧ steps ≤ 100000000000000) (i : Nat) (hi : i < n) :
    Calls Try.prog 107 #[.pointer (some ⟨b, 0, none⟩), .int .i64 i] w fun e w' => ∃ k : Nat, e = .returned (.int .i64 (ro i : Nat)) ∧ k ≤ dg n ∧ UFo S w' b n col ro (steps + k) ∧ Else S w w' := by
  obtain ⟨A, Z, X, par, sz, nx, rk, h1, h2, h3, h4, h5⟩ := h
  refine (search_any h1 h2 h4 (by omega) i hi).mono ?_
  rintro e w2 ⟨par', r, k, rfl, hr, pr, hc, hroots, u', h', hk, he⟩
  obtain ⟨g1, g2, g3⟩ := h5 i hi
  have hro : r = ro i := u'.root r (ro i) hr g1 pr ((hroots _ g1).2 g2) (hc.trans g3.symm)
  subst hro
  exact ⟨k, rfl, dg_of (by omega) hk, ⟨A, Z, X, par', sz, nx, rk, h', u', h3, h4, fun j hj => ⟨(h5 j hj).1, (hroots _ (h5 j hj).1).2 (h5 j hj).2.1, (h5 j hj).2.2⟩⟩, he⟩
theorem has_uf {S : Nat → Prop} {w : World} {b n : Nat} {col ro : Nat → Nat} {steps : Int} (h : UFo S w b n col ro steps) (i : Int) :
    Calls Try.prog 106 #[.pointer (some ⟨b, 0, none⟩), .int .i64 i] w fun e w' => e = .returned (.bool (decide (0 ≤ i ∧ i < n))) ∧ w' = w := by
  obtain ⟨A, Z, X, par, sz, nx, rk, h1, _⟩ := h
  exact has_any h1 i
set_option maxRecDepth 100000 in
theorem root_in {S : Nat → Prop} {w : World} {b n : Nat} {col ro : Nat → Nat} {steps : Int} (h : UFo S w b n col ro steps) (hst : 0 ≤ steps ∧ steps ≤ 100000000000000) (i : Nat) (hi : i < n) :
    Calls Try.prog 101 #[.pointer (some ⟨b, 0, none⟩), .int .i64 i] w fun e w' => ∃ k : Nat, e = .returned (.tuple #[.int .i64 (ro i : Nat), .bool true]) ∧ k ≤ dg n ∧ UFo S w' b n col ro (steps + k) ∧ Else S w w' := by
  have HH := has_uf h (i : Int)
  rw [decide_eq_true (show (0 : Int) ≤ (i : Int) ∧ (i : Int) < (n : Int) by omega)] at HH
  have HS := search_uf h hst i hi
  clear h
  go_enter Try.func101, Try.ntmps101
  go_wp2_with fail
  refine HH.mono ?_
  rintro e w' ⟨rfl, rfl⟩
  go_wp2_with fail
  refine HS.mono ?_
  rintro e w2 ⟨k, rfl, hk, h', he⟩
  have HF := Lib.hid (And.intro hk (And.intro h' he))
  clear hk h' he
  go_wp2_with fail
  go_ret2
  exact ⟨k, rfl, HF.out⟩
set_option maxRecDepth 100000 in
theorem root_out {S : Nat → Prop} {w : World} {b n : Nat} {col ro : Nat → Nat} {steps : Int} (h : UFo S w b n col ro steps) (i : Int) (hi : ¬ (0 ≤ i ∧ i < n)) :
    Calls Try.prog 101 #[.pointer (some ⟨b, 0, none⟩), .int .i64 i] w fun e w' => e = .returned (.tuple #[.int .i64 0, .bool false]) ∧ w' = w := by
  have HH := has_uf h i
  rw [decide_eq_false hi] at HH
  clear h hi
  go_enter Try.func101, Try.ntmps101
  go_wp2_with fail
  refine HH.mono ?_
  rintro e w' ⟨rfl, rfl⟩
  go_wp2_with fail
  go_ret2
  exact ⟨rfl, rfl⟩
end Go.Proofs.Ytbnpmeaaaecciaa.Un
