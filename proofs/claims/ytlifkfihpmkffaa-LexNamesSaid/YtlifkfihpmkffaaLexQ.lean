/- Plain facts on two texts with a line feed between: the tokens of the whole. Nothing here speaks of the program. -/
import Derived.Test.YtlifkfihpmkffaaLexP
namespace Go.Proofs.Ytlifkfihpmkffaa
open Go.RowKit

section
variable {l m : List Int}

theorem takeWhile_stop (p : Int → Bool) (x y : List Int) (c : Int) (hc : p c = false) : (x ++ c :: y).takeWhile p = x.takeWhile p := by
  induction x with
  | nil => simp [hc]
  | cons a x ih =>
    rw [List.cons_append, List.takeWhile_cons, List.takeWhile_cons]
    split
    · rw [ih]
    · rfl
theorem at_left (x y : List Int) (k : Nat) (h : k < x.length) : at_ (x ++ y) k = at_ x k := by
  rw [at_get _ _ h, at_get _ _ (by simp; omega), List.getElem_append_left h]
theorem at_mid (x y : List Int) (c : Int) : at_ (x ++ c :: y) x.length = c := by
  rw [at_get _ _ (by simp), List.getElem_append_right (Nat.le_refl _)]
  simp
theorem at_right (x y : List Int) (k : Nat) : at_ (x ++ y) (x.length + k) = at_ y k := by
  unfold at_
  rw [List.getD_eq_getElem?_getD, List.getD_eq_getElem?_getD, List.getElem?_append_right (by omega), Nat.add_sub_cancel_left]
theorem endAt_left (p : Int → Bool) (c : Int) (hc : p c = false) (k : Nat) (h : k ≤ l.length) : endAt p (l ++ c :: m) k = endAt p l k := by
  unfold endAt
  rw [List.drop_append_of_le_length h, takeWhile_stop p _ _ c hc]
theorem endAt_right (p : Int → Bool) (x y : List Int) (k : Nat) : endAt p (x ++ y) (x.length + k) = x.length + endAt p y k := by
  unfold endAt
  rw [List.drop_append]
  have : List.drop (x.length + k) x = [] := List.drop_eq_nil_of_le (by omega)
  rw [this]
  simp
  omega
theorem sub_left (x y : List Int) (a b : Nat) (h : b ≤ x.length) : sub (x ++ y) a b = sub x a b := by
  unfold sub
  rcases Nat.lt_or_ge a b with hab | hab
  · rw [List.drop_append_of_le_length (by omega), List.take_append_of_le_length (by simp; omega)]
  · rw [show b - a = 0 by omega]; simp
theorem sub_right (x y : List Int) (a b : Nat) : sub (x ++ y) (x.length + a) (x.length + b) = sub y a b := by
  unfold sub
  rw [List.drop_append]
  have : List.drop (x.length + a) x = [] := List.drop_eq_nil_of_le (by omega)
  rw [this, show x.length + b - (x.length + a) = b - a by omega]
  simp
theorem blankLen_feed (x m : List Int) : ∀ r, blankLen r (x ++ 10 :: m) = if blankLen r x < x.length then blankLen r x else x.length + 1 + blankLen false m := by
  induction x with
  | nil =>
    intro r
    have : remB r 10 = false := by simp [remB]
    simp [blankLen, this, blankB]
    omega
  | cons a x ih =>
    intro r
    rw [List.cons_append, blankLen, blankLen]
    split
    · rw [ih]
      split
      · rw [if_pos (by simp; omega)]
      · rw [if_neg (by simp; omega)]; simp; omega
    · rw [if_pos (by simp)]
/-- Where the first part's place stands in the whole. -/
def posB (l m : List Int) (k : Nat) : Nat := if k < l.length then k else l.length + 1 + blankEnd false m 0
theorem blankEnd_feeds (r : Bool) (k : Nat) (h : k ≤ l.length) : blankEnd r (l ++ 10 :: m) k = posB l m (blankEnd r l k) := by
  unfold blankEnd posB
  rw [List.drop_append_of_le_length h, blankLen_feed]
  have hle := blankLen_le (l.drop k) r
  simp at hle ⊢
  split
  · rw [if_pos (by omega)]
  · rw [if_neg (by omega)]
    simp [blankEnd]; omega
theorem blankEnd_right (r : Bool) (x y : List Int) (k : Nat) : blankEnd r (x ++ y) (x.length + k) = x.length + blankEnd r y k := by
  unfold blankEnd
  rw [List.drop_append]
  have : List.drop (x.length + k) x = [] := List.drop_eq_nil_of_le (by omega)
  rw [this]
  simp
  omega

/-- In the first part tokens are as they are alone: a byte that no token has follows. -/
theorem tokenT_left (c : Int) (hi : innerB c = false) (h62 : c ≠ 62) (k : Nat) (hk : k < l.length) : tokenT (l ++ c :: m) k = tokenT l k := by
  have hd : digitB c = false := by unfold innerB at hi; simp at hi; exact hi.1.2
  have hs : smallB c = false := by unfold innerB at hi; simp at hi; exact hi.1.1
  have hu : (c == 95) = false := by unfold innerB at hi; simp at hi; simp; exact hi.2
  have e0 := at_left l (c :: m) k hk
  unfold tokenT
  rw [e0]
  have hw : wordT (l ++ c :: m) k = wordT l k := by
    unfold wordT
    rw [endAt_left innerB c hi k (by omega), sub_left _ _ _ _ (endAt_le innerB l k (by omega))]
  have hle := endAt_le digitB l k (by omega)
  have hn : numberT (l ++ c :: m) k = numberT l k := by
    unfold numberT
    have hb : numBad (l ++ c :: m) k = numBad l k := by
      unfold numBad
      rw [endAt_left digitB c hd k (by omega), e0]
      congr 1
      rcases Nat.lt_or_ge (endAt digitB l k) l.length with h | h
      · rw [at_left _ _ _ h, decide_eq_true h, decide_eq_true (by simp; omega)]
      · have he : endAt digitB l k = l.length := by omega
        rw [he, at_mid, hs, hu]
        simp
    rw [hb, endAt_left digitB c hd k (by omega)]
  have hsg : signT (l ++ c :: m) k = signT l k := by
    unfold signT
    rw [e0]
    have : (at_ (l ++ c :: m) (k + 1) == 62) = (at_ l (k + 1) == 62) := by
      rcases Nat.lt_or_ge (k + 1) l.length with h | h
      · rw [at_left _ _ _ h]
      · have he : k + 1 = l.length := by omega
        rw [he, at_mid, at_none _ _ (Nat.le_refl _)]
        simp [h62]
    rw [this]
  rw [hw, hn, hsg]
def shT (c : Nat) (t : Int × Nat × Int) : Int × Nat × Int := if t.2.2 = 0 then (t.1, c + t.2.1, t.2.2) else t
theorem tokenT_right (x y : List Int) (k : Nat) : tokenT (x ++ y) (x.length + k) = shT x.length (tokenT y k) := by
  unfold tokenT
  rw [at_right]
  have hw : wordT (x ++ y) (x.length + k) = shT x.length (wordT y k) := by
    unfold wordT
    rw [endAt_right, sub_right]
    split
    · rfl
    · rw [show x.length + endAt innerB y k - (x.length + k) = endAt innerB y k - k by omega]
      split <;> rfl
  have hn : numberT (x ++ y) (x.length + k) = shT x.length (numberT y k) := by
    unfold numberT
    have hb : numBad (x ++ y) (x.length + k) = numBad y k := by
      unfold numBad
      rw [endAt_right, at_right, at_right]
      congr 1
      · congr 1; exact decide_eq_decide.2 (by omega)
      · congr 1; exact decide_eq_decide.2 (by simp)
    rw [hb, endAt_right]
    split
    · rfl
    · rw [show x.length + endAt digitB y k - (x.length + k) = endAt digitB y k - k by omega]
      split <;> rfl
  have hsg : signT (x ++ y) (x.length + k) = shT x.length (signT y k) := by
    unfold signT
    rw [at_right, Nat.add_assoc, at_right]
    split
    · rfl
    · split <;> rfl
  rw [hw, hn, hsg]
  split
  · rfl
  · split <;> rfl

/-! The tokens from a place on, whatever the fuel. -/
theorem wordsA_fuel (l : List Int) : ∀ (f k : Nat) (acc : List (Int × Nat × Nat)), l.length < f + k → k ≤ l.length → wordsA l (f + 1) k acc = wordsA l f k acc := by
  intro f
  induction f with
  | zero => intro k acc h hk; omega
  | succ f ih =>
    intro k acc h hk
    by_cases hlt : k < l.length
    · by_cases he : (tokenT l k).2.2 = 0
      · have hok := tokenT_ok l k hlt he
        have h1 := blankEnd_ge false l (tokenT l k).2.1
        have h2 := blankEnd_le false l (tokenT l k).2.1 hok.2
        have e : ∀ g, wordsA l (g + 1) k acc = wordsA l g (blankEnd false l (tokenT l k).2.1) (acc ++ [((tokenT l k).1, k, (tokenT l k).2.1)]) := fun g => by rw [wordsA, if_pos hlt, if_pos he]
        rw [e (f + 1), e f]
        exact ih _ _ (by omega) h2
      · have e : ∀ g, wordsA l (g + 1) k acc = .error (k, (tokenT l k).2.2) := fun g => by rw [wordsA, if_pos hlt, if_neg he]
        rw [e (f + 1), e f]
    · rw [wordsA_end (by omega), wordsA_end (by omega)]
theorem wordsA_fuels (l : List Int) (f g k : Nat) (acc : List (Int × Nat × Nat)) (hf : l.length < f + k) (hk : k ≤ l.length) : wordsA l (f + g) k acc = wordsA l f k acc := by
  induction g with
  | zero => rfl
  | succ g ih => rw [← Nat.add_assoc, wordsA_fuel l (f + g) k acc (by omega) hk, ih]
def wordsK (l : List Int) (k : Nat) (acc : List (Int × Nat × Nat)) : Except (Nat × Int) (List (Int × Nat × Nat)) := wordsA l (l.length + 1) k acc
theorem wordsK_go {k : Nat} {acc : List (Int × Nat × Nat)} {kd : Int} {to : Nat} (hk : k < l.length) (hT : tokenT l k = (kd, to, 0)) : wordsK l k acc = wordsK l (blankEnd false l to) (acc ++ [(kd, k, to)]) := by
  have hok := tokenT_ok l k hk (by rw [hT])
  rw [hT] at hok
  have h1 := blankEnd_ge false l to
  have h2 := blankEnd_le false l to hok.2
  have h3 : k < to := hok.1
  unfold wordsK
  rw [wordsA_go (by omega) hk hT]
  exact (wordsA_fuels l l.length 1 _ _ (by omega) h2).symm
theorem wordsK_bad {k : Nat} {acc : List (Int × Nat × Nat)} {kd er : Int} {to : Nat} (hk : k < l.length) (hT : tokenT l k = (kd, to, er)) (he : er ≠ 0) : wordsK l k acc = .error (k, er) := wordsA_bad (by omega) hk hT he
theorem wordsK_end {k : Nat} {acc : List (Int × Nat × Nat)} (hk : l.length ≤ k) : wordsK l k acc = .ok acc := wordsA_end hk

theorem wordsK_left (m : List Int) : ∀ (n k : Nat) (acc : List (Int × Nat × Nat)), l.length - k ≤ n → k ≤ l.length →
    wordsK (l ++ 10 :: m) (posB l m k) acc = match wordsK l k acc with
      | .error e => .error e
      | .ok ts => wordsK (l ++ 10 :: m) (l.length + 1 + blankEnd false m 0) ts := by
  intro n
  induction n with
  | zero =>
    intro k acc hn hk
    rw [wordsK_end (l := l) (by omega)]
    unfold posB
    rw [if_neg (by omega)]
  | succ n ih =>
    intro k acc hn hk
    by_cases hlt : k < l.length
    · obtain ⟨kd, to, er, hT⟩ : ∃ kd to er, tokenT l k = (kd, to, er) := ⟨_, _, _, rfl⟩
      have hT2 : tokenT (l ++ 10 :: m) k = (kd, to, er) := by rw [tokenT_left 10 (by rfl) (by omega) k hlt, hT]
      have hp : posB l m k = k := by unfold posB; rw [if_pos hlt]
      rw [hp]
      by_cases he : er = 0
      · subst he
        have hok := tokenT_ok l k hlt (by rw [hT])
        rw [hT] at hok
        have h3 : k < to := hok.1
        have h4 : to ≤ l.length := hok.2
        have h1 := blankEnd_ge false l to
        have h2 := blankEnd_le false l to h4
        rw [wordsK_go (l := l ++ 10 :: m) (by simp; omega) hT2, blankEnd_feeds false to h4, wordsK_go hlt hT]
        exact ih _ _ (by omega) h2
      · rw [wordsK_bad (l := l ++ 10 :: m) (by simp; omega) hT2 he, wordsK_bad hlt hT he]
    · rw [wordsK_end (l := l) (by omega)]
      unfold posB
      rw [if_neg hlt]
def sh (c : Nat) (t : Int × Nat × Nat) : Int × Nat × Nat := (t.1, c + t.2.1, c + t.2.2)
theorem wordsK_right (x y : List Int) (acc : List (Int × Nat × Nat)) : ∀ (n k : Nat) (acc' : List (Int × Nat × Nat)), y.length - k ≤ n → k ≤ y.length →
    wordsK (x ++ y) (x.length + k) (acc ++ acc'.map (sh x.length)) = match wordsK y k acc' with
      | .error (p, e) => .error (x.length + p, e)
      | .ok ts => .ok (acc ++ ts.map (sh x.length)) := by
  intro n
  induction n with
  | zero =>
    intro k acc' hn hk
    rw [wordsK_end (l := y) (by omega), wordsK_end (by simp; omega)]
  | succ n ih =>
    intro k acc' hn hk
    by_cases hlt : k < y.length
    · obtain ⟨kd, to, er, hT⟩ : ∃ kd to er, tokenT y k = (kd, to, er) := ⟨_, _, _, rfl⟩
      have hT2 : tokenT (x ++ y) (x.length + k) = shT x.length (kd, to, er) := by rw [tokenT_right, hT]
      by_cases he : er = 0
      · subst he
        have hok := tokenT_ok y k hlt (by rw [hT])
        rw [hT] at hok
        have h3 : k < to := hok.1
        have h4 : to ≤ y.length := hok.2
        have h1 := blankEnd_ge false y to
        have h2 := blankEnd_le false y to h4
        rw [wordsK_go hlt hT]
        have hT3 : tokenT (x ++ y) (x.length + k) = (kd, x.length + to, 0) := hT2
        rw [wordsK_go (by simp; omega) hT3, blankEnd_right]
        have := ih (blankEnd false y to) (acc' ++ [(kd, k, to)]) (by omega) h2
        rw [← this]
        congr 1
        simp [sh]
      · have hT3 : tokenT (x ++ y) (x.length + k) = (kd, to, er) := by rw [hT2]; unfold shT; rw [if_neg he]
        rw [wordsK_bad hlt hT he, wordsK_bad (by simp; omega) hT3 he]
    · rw [wordsK_end (l := y) (by omega), wordsK_end (by simp; omega)]
/-- THE WHOLE: the first part's error; or the second's, behind; or the tokens of both. -/
theorem wordsE_both (l m : List Int) : wordsE (l ++ 10 :: m) = match wordsE l with
    | .error e => .error e
    | .ok ts => match wordsE m with
      | .error (p, e) => .error (l.length + 1 + p, e)
      | .ok us => .ok (ts ++ us.map (sh (l.length + 1))) := by
  have h1 := wordsK_left (l := l) m l.length (blankEnd false l 0) [] (by omega) (blankEnd_le _ _ _ (Nat.zero_le _))
  rw [← blankEnd_feeds false 0 (Nat.zero_le _)] at h1
  show wordsK (l ++ 10 :: m) (blankEnd false (l ++ 10 :: m) 0) [] = _
  rw [h1]
  show (match wordsK l (blankEnd false l 0) [] with | .error e => _ | .ok ts => _) = match wordsK l (blankEnd false l 0) [] with | .error e => _ | .ok ts => _
  rcases wordsK l (blankEnd false l 0) [] with e | ts
  · rfl
  · have h2 := wordsK_right (l ++ [10]) m ts m.length (blankEnd false m 0) [] (by omega) (blankEnd_le _ _ _ (Nat.zero_le _))
    have hl : (l ++ [10]).length = l.length + 1 := by simp
    rw [hl, List.append_assoc] at h2
    simp only [List.map_nil, List.append_nil, List.singleton_append] at h2
    exact h2
theorem wordsA_err (l : List Int) : ∀ (f k : Nat) (acc : List (Int × Nat × Nat)) (p : Nat) (e : Int), wordsA l f k acc = .error (p, e) → e ≠ 0 ∧ p < l.length := by
  intro f
  induction f with
  | zero => intro k acc p e h; rw [wordsA] at h; cases h
  | succ f ih =>
    intro k acc p e h
    rw [wordsA] at h
    by_cases hlt : k < l.length
    · rw [if_pos hlt] at h
      by_cases he : (tokenT l k).2.2 = 0
      · rw [if_pos he] at h; exact ih _ _ _ _ h
      · rw [if_neg he] at h
        injection h with h
        injection h with h1 h2
        subst h1; subst h2
        exact ⟨he, hlt⟩
    · rw [if_neg hlt] at h; cases h
theorem wordsE_err (l : List Int) (p : Nat) (e : Int) (h : wordsE l = .error (p, e)) : e ≠ 0 ∧ p < l.length := wordsA_err l _ _ _ _ _ h
/-- Each token that is told lies in the text, and has bytes. -/
theorem wordsA_in (l : List Int) : ∀ (f k : Nat) (acc ts : List (Int × Nat × Nat)), (∀ t ∈ acc, t.2.1 < t.2.2 ∧ t.2.2 ≤ l.length) → wordsA l f k acc = .ok ts → ∀ t ∈ ts, t.2.1 < t.2.2 ∧ t.2.2 ≤ l.length := by
  intro f
  induction f with
  | zero => intro k acc ts ha h; rw [wordsA] at h; injection h with h; subst h; exact ha
  | succ f ih =>
    intro k acc ts ha h
    rw [wordsA] at h
    by_cases hlt : k < l.length
    · rw [if_pos hlt] at h
      by_cases he : (tokenT l k).2.2 = 0
      · rw [if_pos he] at h
        refine ih _ _ _ ?_ h
        intro t ht
        rcases List.mem_append.1 ht with h1 | h1
        · exact ha t h1
        · simp at h1
          subst h1
          exact tokenT_ok l k hlt he
      · rw [if_neg he] at h; cases h
    · rw [if_neg hlt] at h; injection h with h; subst h; exact ha
theorem wordsE_in (l : List Int) (ts : List (Int × Nat × Nat)) (h : wordsE l = .ok ts) : ∀ t ∈ ts, t.2.1 < t.2.2 ∧ t.2.2 ≤ l.length := wordsA_in l _ _ _ _ (by simp) h
end
end Go.Proofs.Ytlifkfihpmkffaa
