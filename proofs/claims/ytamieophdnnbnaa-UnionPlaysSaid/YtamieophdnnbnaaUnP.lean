/- Sets that become one: the mathematics of a forest with ranks (nothing here speaks of the program). -/
import Derived.WalkKit
namespace Go.Proofs.Ytamieophdnnbnaa.Un

def upd (f : Nat → Nat) (i v : Nat) : Nat → Nat := fun k => if k = i then v else f k
theorem upd_same (f : Nat → Nat) (i v : Nat) : upd f i v i = v := by simp [upd]
theorem upd_other (f : Nat → Nat) {i k : Nat} (v : Nat) (h : k ≠ i) : upd f i v k = f k := by simp [upd, h]
/-- How many have the color of one. -/
def cls (n : Nat) (col : Nat → Nat) (i : Nat) : Nat := (List.range n).countP fun k => col k == col i
/-- How many colors. -/
def cnt (n : Nat) (col : Nat → Nat) : Nat := (List.range n).countP fun i => (List.range i).all fun j => !(col j == col i)
/-- Two ways to color are the same. -/
def Ker (n : Nat) (c d : Nat → Nat) : Prop := ∀ i j, i < n → j < n → (c i = c j ↔ d i = d j)
theorem Ker.cls {n : Nat} {c d : Nat → Nat} (h : Ker n c d) {i : Nat} (hi : i < n) : cls n c i = cls n d i := by
  unfold Un.cls
  apply List.countP_congr
  intro k hk
  simp only [beq_iff_eq]
  exact h k i (List.mem_range.1 hk) hi
theorem Ker.cnt {n : Nat} {c d : Nat → Nat} (h : Ker n c d) : cnt n c = cnt n d := by
  unfold Un.cnt
  apply List.countP_congr
  intro k hk
  have hk := List.mem_range.1 hk
  simp only [List.all_eq_true, List.mem_range, Bool.not_eq_true', beq_eq_false_iff_ne, ne_eq]
  constructor
  · intro g j hj; exact fun e => g j hj ((h j k (by omega) hk).2 e)
  · intro g j hj; exact fun e => g j hj ((h j k (by omega) hk).1 e)
structure UFr (n : Nat) (par sz col rk : Nat → Nat) : Prop where
  lt : ∀ i, i < n → par i < n
  colp : ∀ i, i < n → col (par i) = col i
  root : ∀ i j, i < n → j < n → par i = i → par j = j → col i = col j → i = j
  up : ∀ i, i < n → par i ≠ i → rk i < rk (par i)
  big : ∀ i, i < n → par i = i → 2 ^ rk i ≤ sz i
  small : ∀ i, i < n → 2 ^ rk i ≤ n
  size : ∀ i, i < n → par i = i → sz i = cls n col i
theorem cls_le (n : Nat) (col : Nat → Nat) (i : Nat) : cls n col i ≤ n := by
  have := List.countP_le_length (p := fun k => col k == col i) (l := List.range n)
  simpa [cls] using this
theorem UFr.ker {n : Nat} {par sz col rk d : Nat → Nat} (h : UFr n par sz col rk) (k : Ker n col d) : UFr n par sz d rk where
  lt := h.lt
  colp i hi := (k _ _ (h.lt i hi) hi).1 (h.colp i hi)
  root i j hi hj a b e := h.root i j hi hj a b ((k i j hi hj).2 e)
  up := h.up
  big := h.big
  small := h.small
  size i hi a := (h.size i hi a).trans (k.cls hi)
/-- A step nearer to the root. -/
theorem UFr.halve {n : Nat} {par sz col rk : Nat → Nat} (h : UFr n par sz col rk) {i : Nat} (hi : i < n) (ht : par (par i) ≠ par i) :
    UFr n (upd par i (par (par i))) sz col rk ∧ (∀ j, j < n → (upd par i (par (par i)) j = j ↔ par j = j)) ∧ rk i < rk (par (par i)) := by
  have hpi : par i ≠ i := fun e => ht (by rw [e, e])
  have h1 := h.up i hi hpi
  have h2 := h.up (par i) (h.lt i hi) ht
  have hne : par (par i) ≠ i := fun e => by rw [e] at h2; omega
  have hroots : ∀ j, j < n → (upd par i (par (par i)) j = j ↔ par j = j) := by
    intro j hj
    by_cases e : j = i
    · subst e; rw [upd_same]; exact ⟨fun x => absurd x hne, fun x => absurd x hpi⟩
    · rw [upd_other _ _ e]
  refine ⟨⟨fun j hj => ?_, fun j hj => ?_, fun a b ha hb hpa hpb => h.root a b ha hb ((hroots a ha).1 hpa) ((hroots b hb).1 hpb), fun j hj hpj => ?_, fun j hj hpj => h.big j hj ((hroots j hj).1 hpj), h.small, fun j hj hpj => h.size j hj ((hroots j hj).1 hpj)⟩, hroots, by omega⟩
  · by_cases e : j = i
    · subst e; rw [upd_same]; exact h.lt _ (h.lt _ hj)
    · rw [upd_other _ _ e]; exact h.lt j hj
  · by_cases e : j = i
    · subst e; rw [upd_same, h.colp _ (h.lt _ hj), h.colp _ hj]
    · rw [upd_other _ _ e]; exact h.colp j hj
  · by_cases e : j = i
    · subst e; rw [upd_same]; omega
    · rw [upd_other _ _ e] at hpj ⊢; exact h.up j hj hpj
/-- One color for two. -/
def paint (col : Nat → Nat) (a b : Nat) : Nat → Nat := fun k => if col k = col b then col a else col k
theorem paint_eq (col : Nat → Nat) (a b x y : Nat) : paint col a b x = paint col a b y ↔ (col x = col y ∨ (col x = col a ∨ col x = col b) ∧ (col y = col a ∨ col y = col b)) := by
  unfold paint
  by_cases hx : col x = col b <;> by_cases hy : col y = col b
  · rw [if_pos hx, if_pos hy]; exact ⟨fun _ => .inr ⟨.inr hx, .inr hy⟩, fun _ => rfl⟩
  · rw [if_pos hx, if_neg hy]
    constructor
    · intro e; exact .inr ⟨.inr hx, .inl e.symm⟩
    · rintro (e | ⟨_, e | e⟩)
      · exact absurd (e.symm.trans hx) hy
      · exact e.symm
      · exact absurd e hy
  · rw [if_neg hx, if_pos hy]
    constructor
    · intro e; exact .inr ⟨.inl e, .inr hy⟩
    · rintro (e | ⟨e | e, _⟩)
      · exact absurd (e.trans hy) hx
      · exact e
      · exact absurd e hx
  · rw [if_neg hx, if_neg hy]
    constructor
    · intro e; exact .inl e
    · rintro (e | ⟨e | e, f | f⟩)
      · exact e
      · rw [e, f]
      · exact absurd f hy
      · exact absurd e hx
      · exact absurd e hx
theorem paint_ker {n : Nat} {col : Nat → Nat} {a b c d : Nat} (h : (col c = col a ∧ col d = col b) ∨ (col c = col b ∧ col d = col a)) : Ker n (paint col a b) (paint col c d) := by
  intro i j _ _
  rw [paint_eq, paint_eq]
  rcases h with ⟨h1, h2⟩ | ⟨h1, h2⟩ <;> rw [h1, h2]
  constructor <;> (rintro (h | ⟨h, h'⟩); exact .inl h; exact .inr ⟨h.symm, h'.symm⟩)
theorem countP_two {α} (p q r : α → Bool) : ∀ (l : List α), (∀ x ∈ l, r x = (p x || q x) ∧ ¬ (p x = true ∧ q x = true)) → l.countP r = l.countP p + l.countP q
  | [], _ => rfl
  | x :: l, h => by
    have ih := countP_two p q r l fun y hy => h y (List.mem_cons_of_mem _ hy)
    obtain ⟨h1, h2⟩ := h x List.mem_cons_self
    rw [List.countP_cons, List.countP_cons, List.countP_cons, ih, h1]
    cases hp : p x <;> cases hq : q x <;> simp [hp, hq] at h2 ⊢ <;> omega
theorem cls_paint {n : Nat} {col : Nat → Nat} {r o : Nat} (hne : col r ≠ col o) : cls n (paint col r o) r = cls n col r + cls n col o := by
  apply countP_two
  intro k _
  have e : (paint col r o k = paint col r o r) ↔ (col k = col r ∨ col k = col o) := by
    rw [paint_eq]
    constructor
    · rintro (h | ⟨h, _⟩)
      · exact .inl h
      · exact h
    · intro h; exact .inr ⟨h, .inl rfl⟩
  constructor
  · rw [Bool.eq_iff_iff]; simp only [beq_iff_eq, Bool.or_eq_true]; exact e
  · simp only [beq_iff_eq, not_and]; intro h1 h2; exact hne (h1.symm.trans h2)
theorem cls_paint_other {n : Nat} {col : Nat → Nat} {r o x : Nat} (h1 : col x ≠ col r) (h2 : col x ≠ col o) : cls n (paint col r o) x = cls n col x := by
  unfold cls
  apply List.countP_congr
  intro k _
  simp only [beq_iff_eq, paint_eq]
  constructor
  · rintro (h | ⟨_, h | h⟩)
    · exact h
    · exact absurd h h1
    · exact absurd h h2
  · exact .inl
theorem UFr.join {n : Nat} {par sz col rk : Nat → Nat} (h : UFr n par sz col rk) {r o : Nat} (hr : r < n) (ho : o < n) (pr : par r = r) (po : par o = o) (hne : r ≠ o) (hs : sz o ≤ sz r) :
    UFr n (upd par o r) (upd sz r (sz r + sz o)) (paint col r o) (upd rk r (max (rk r) (rk o + 1))) := by
  have hcne : col r ≠ col o := fun e => hne (h.root r o hr ho pr po e)
  have hrt : ∀ j, j < n → (upd par o r j = j ↔ (par j = j ∧ j ≠ o)) := by
    intro j hj
    by_cases e : j = o
    · subst e; rw [upd_same]; simp [hne]
    · rw [upd_other _ _ e]; simp [e]
  have hbig : 2 ^ max (rk r) (rk o + 1) ≤ sz r + sz o := by
    have b1 := h.big r hr pr
    have b2 := h.big o ho po
    rcases Nat.le_total (rk r) (rk o + 1) with e | e
    · rw [Nat.max_eq_right e, Nat.pow_succ]; omega
    · rw [Nat.max_eq_left e]; omega
  have hsize : sz r + sz o = cls n (paint col r o) r := by rw [cls_paint hcne, h.size r hr pr, h.size o ho po]
  refine ⟨fun j hj => ?_, fun j hj => ?_, fun a b ha hb hpa hpb e => ?_, fun j hj hpj => ?_, fun j hj hpj => ?_, fun j hj => ?_, fun j hj hpj => ?_⟩
  · by_cases e : j = o
    · subst e; rw [upd_same]; exact hr
    · rw [upd_other _ _ e]; exact h.lt j hj
  · by_cases e : j = o
    · subst e; rw [upd_same, paint_eq]; exact .inr ⟨.inl rfl, .inr rfl⟩
    · rw [upd_other _ _ e, paint_eq]; exact .inl (h.colp j hj)
  · obtain ⟨pa, ao⟩ := (hrt a ha).1 hpa
    obtain ⟨pb, bo⟩ := (hrt b hb).1 hpb
    rcases (paint_eq _ _ _ _ _).1 e with e | ⟨e1, e2⟩
    · exact h.root a b ha hb pa pb e
    · have f1 : a = r := by
        rcases e1 with e1 | e1
        · exact h.root a r ha hr pa pr e1
        · exact absurd (h.root a o ha ho pa po e1) ao
      have f2 : b = r := by
        rcases e2 with e2 | e2
        · exact h.root b r hb hr pb pr e2
        · exact absurd (h.root b o hb ho pb po e2) bo
      rw [f1, f2]
  · by_cases e : j = o
    · subst e
      rw [upd_same, upd_same, upd_other _ _ (Ne.symm hne)]
      omega
    · rw [upd_other _ _ e] at hpj ⊢
      have hu := h.up j hj hpj
      have hjr : j ≠ r := fun e2 => hpj (by rw [e2]; exact pr)
      rw [upd_other _ _ hjr]
      by_cases e3 : par j = r
      · rw [e3, upd_same]; rw [e3] at hu; omega
      · rw [upd_other _ _ e3]; exact hu
  · obtain ⟨pj, jo⟩ := (hrt j hj).1 hpj
    by_cases e : j = r
    · subst e; rw [upd_same, upd_same]; exact hbig
    · rw [upd_other _ _ e, upd_other _ _ e]; exact h.big j hj pj
  · by_cases e : j = r
    · subst e
      rw [upd_same]
      refine Nat.le_trans hbig ?_
      rw [hsize]; exact cls_le _ _ _
    · rw [upd_other _ _ e]; exact h.small j hj
  · obtain ⟨pj, jo⟩ := (hrt j hj).1 hpj
    by_cases e : j = r
    · subst e; rw [upd_same]; exact hsize
    · rw [upd_other _ _ e, cls_paint_other (fun x => e (h.root j r hj hr pj pr x)) (fun x => jo (h.root j o hj ho pj po x))]
      exact h.size j hj pj
/-- At first each is alone. -/
theorem UFr.alone (n : Nat) : UFr n (fun k => k) (fun _ => 1) (fun k => k) (fun _ => 0) where
  lt i hi := hi
  colp i _ := rfl
  root i j _ _ _ _ e := e
  up i _ h := absurd rfl h
  big i _ _ := Nat.le_refl _
  small i hi := by simp; omega
  size i hi _ := by
    unfold cls
    have : (List.range n).countP (fun k => k == i) = (List.range n).count i := rfl
    rw [this, List.Nodup.count List.nodup_range, if_pos (List.mem_range.2 hi)]
end Go.Proofs.Ytamieophdnnbnaa.Un
