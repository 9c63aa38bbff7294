/- Plain facts on tokens that are printed with blanks between, and read again. Nothing here speaks of the program. -/
import Derived.Test.YtlifkfihpmkffaaLexQ
namespace Go.Proofs.Ytlifkfihpmkffaa
open Go.RowKit

/-- What may stand behind a token: nothing, or a blank. -/
def Rest (r : List Int) : Prop := r = [] ∨ ∃ r', r = 32 :: r'
/-- A text that is read as one token of a kind, whatever stands behind. -/
def Valid (kd : Int) (x : List Int) : Prop := x ≠ [] ∧ ∀ r, Rest r → tokenT (x ++ r) 0 = (kd, x.length, 0) ∧ blankEnd false (x ++ r) 0 = 0

theorem mem_tw (p : Int → Bool) (l : List Int) {c : Int} (h : c ∈ l.takeWhile p) : p c = true := by
  induction l with
  | nil => simp at h
  | cons a l ih =>
    rw [List.takeWhile_cons] at h
    split at h
    · rename_i ha
      rcases List.mem_cons.1 h with rfl | h
      · exact ha
      · exact ih h
    · simp at h
theorem sub_self (x : List Int) : sub x 0 x.length = x := by simp [sub]
theorem takeWhile_rest (p : Int → Bool) (hp : p 32 = false) (x r : List Int) (hx : ∀ c ∈ x, p c = true) (hr : Rest r) : (x ++ r).takeWhile p = x := by
  rw [List.takeWhile_append_of_pos hx]
  rcases hr with rfl | ⟨r', rfl⟩
  · simp
  · rw [List.takeWhile_cons, if_neg (by simp [hp])]; simp
theorem sub_while (p : Int → Bool) (l : List Int) (k : Nat) : sub l k (endAt p l k) = (l.drop k).takeWhile p := by
  unfold sub endAt
  rw [Nat.add_sub_cancel_left]
  exact (List.prefix_iff_eq_take.1 (List.takeWhile_prefix p)).symm
theorem at_rest (x r : List Int) (hr : Rest r) : at_ (x ++ r) x.length = 0 ∧ x.length = (x ++ r).length ∨ at_ (x ++ r) x.length = 32 := by
  rcases hr with rfl | ⟨r', rfl⟩
  · left; exact ⟨at_none _ _ (by simp), by simp⟩
  · right; exact at_mid x r' 32
theorem head_eq (l x : List Int) (k to : Nat) (hx : x = sub l k to) (hk : k < l.length) (hto : k < to) (r : List Int) : at_ (x ++ r) 0 = at_ l k := by
  subst hx
  unfold sub
  have : 0 < to - k := by omega
  obtain ⟨n, hn⟩ : ∃ n, to - k = n + 1 := ⟨to - k - 1, by omega⟩
  rw [hn, List.drop_eq_getElem_cons hk, List.take_succ_cons, at_get _ _ hk]
  simp [at_]
theorem noblank (l : List Int) (h : 0 < l.length) (hb : blankB (at_ l 0) = false) (h35 : at_ l 0 ≠ 35) : blankEnd false l 0 = 0 := by
  rw [at_get _ _ h] at hb h35
  exact blankEnd_token h hb h35
theorem small_no (c : Int) (h : smallB c = true) : blankB c = false ∧ c ≠ 35 := by
  unfold smallB at h; unfold blankB; simp at h ⊢; omega
theorem digit_no (c : Int) (h : digitB c = true) : blankB c = false ∧ c ≠ 35 := by
  unfold digitB at h; unfold blankB; simp at h ⊢; omega
theorem sign_no (c : Int) (h : signB c = true) : blankB c = false ∧ c ≠ 35 := by
  unfold signB at h; unfold blankB; simp at h ⊢; omega

theorem token_valid (l : List Int) (k to : Nat) (kd : Int) (hk : k < l.length) (hT : tokenT l k = (kd, to, 0)) : Valid kd (sub l k to) := by
  have hok := tokenT_ok l k hk (by rw [hT])
  rw [hT] at hok
  have h1 : k < to := hok.1
  have h2 : to ≤ l.length := hok.2
  have hlen : (sub l k to).length = to - k := by unfold sub; rw [List.length_take, List.length_drop]; omega
  have hne : sub l k to ≠ [] := by
    intro h; rw [h] at hlen; simp at hlen; omega
  refine ⟨hne, fun r hr => ?_⟩
  have hh := head_eq l _ k to rfl hk h1 r
  have hlr : 0 < (sub l k to ++ r).length := by simp; omega
  have hnb : ∀ c, at_ l k = c → (blankB c = false ∧ c ≠ 35) → blankEnd false (sub l k to ++ r) 0 = 0 := by
    intro c hc ⟨h3, h4⟩
    exact noblank _ hlr (by rw [hh, hc]; exact h3) (by rw [hh, hc]; exact h4)
  unfold tokenT at hT ⊢
  rw [hh]
  by_cases hs : smallB (at_ l k) = true
  · rw [if_pos hs] at hT ⊢
    refine ⟨?_, hnb _ rfl (small_no _ hs)⟩
    have hto : to = endAt innerB l k := by
      unfold wordT at hT
      split at hT
      · injection hT with _ h; injection h with h _; exact h.symm
      · split at hT
        · injection hT with _ h; injection h with _ h; cases h
        · injection hT with _ h; injection h with h _; exact h.symm
    subst hto
    have hx : ∀ c ∈ sub l k (endAt innerB l k), innerB c = true := by
      rw [sub_while]; intro c hc; exact mem_tw _ _ hc
    have he : endAt innerB (sub l k (endAt innerB l k) ++ r) 0 = (sub l k (endAt innerB l k)).length := by
      rw [endAt, List.drop_zero, takeWhile_rest innerB (by rfl) _ r hx hr, Nat.zero_add]
    unfold wordT at hT ⊢
    rw [he]
    have hsub : sub (sub l k (endAt innerB l k) ++ r) 0 (sub l k (endAt innerB l k)).length = sub l k (endAt innerB l k) := by
      rw [sub_left _ _ _ _ (Nat.le_refl _)]
      exact sub_self _
    rw [hsub]
    split at hT
    · rename_i hkw
      rw [if_pos hkw]
      injection hT with h _; rw [h]
    · rename_i hkw
      rw [if_neg hkw]
      split at hT
      · injection hT with _ h; injection h with _ h; cases h
      · rename_i h20
        rw [if_neg (by rw [hlen]; omega)]
        injection hT with h _; rw [h]
  · rw [if_neg hs] at hT ⊢
    by_cases hd : digitB (at_ l k) = true
    · rw [if_pos hd] at hT ⊢
      refine ⟨?_, hnb _ rfl (digit_no _ hd)⟩
      have hto : to = endAt digitB l k ∧ numBad l k = false ∧ ¬ 9 < endAt digitB l k - k ∧ kd = 2 := by
        unfold numberT at hT
        split at hT
        · injection hT with _ h; injection h with _ h; cases h
        · rename_i hb
          split at hT
          · injection hT with _ h; injection h with _ h; cases h
          · rename_i h9
            injection hT with h' h; injection h with h _; exact ⟨h.symm, by simpa using hb, h9, h'.symm⟩
      obtain ⟨rfl, hb, h9, rfl⟩ := hto
      have hx : ∀ c ∈ sub l k (endAt digitB l k), digitB c = true := by
        rw [sub_while]; intro c hc; exact mem_tw _ _ hc
      have he : endAt digitB (sub l k (endAt digitB l k) ++ r) 0 = (sub l k (endAt digitB l k)).length := by
        rw [endAt, List.drop_zero, takeWhile_rest digitB (by rfl) _ r hx hr, Nat.zero_add]
      have hb2 : numBad (sub l k (endAt digitB l k) ++ r) 0 = false := by
        unfold numBad at hb ⊢
        rw [he, hh]
        rw [Bool.or_eq_false_iff] at hb ⊢
        refine ⟨?_, ?_⟩
        · rw [← hb.1]
          congr 1
          exact decide_eq_decide.2 (by rw [hlen]; omega)
        · rcases at_rest (sub l k (endAt digitB l k)) r hr with ⟨_, h⟩ | h
          · rw [decide_eq_false (by omega)]; rfl
          · rw [h]; simp [smallB]
      unfold numberT
      rw [hb2, he, if_neg (by simp), if_neg (by rw [hlen]; omega)]
    · rw [if_neg hd] at hT ⊢
      unfold signT at hT ⊢
      rw [hh]
      by_cases hsg : signB (at_ l k) = true
      · rw [if_pos hsg] at hT ⊢
        refine ⟨?_, hnb _ rfl (sign_no _ hsg)⟩
        injection hT with h' h; injection h with h _
        subst h'; subst h
        rw [hlen]
        simp
      · rw [if_neg hsg] at hT ⊢
        split at hT
        · rename_i ha
          injection hT with h' h; injection h with h _
          subst h'; subst h
          have ha' := ha
          simp at ha'
          have hk1 : k + 1 < l.length := by omega
          have h1' : at_ (sub l k (k + 2) ++ r) (0 + 1) = at_ l (k + 1) := by
            have : 1 < (sub l k (k + 2)).length := by omega
            rw [at_left _ _ _ (by omega), at_get _ _ (by omega), at_get _ _ hk1]
            simp [sub]
          rw [h1', if_pos ha]
          refine ⟨by rw [hlen]; simp, hnb 45 ha'.1 ⟨by rfl, by omega⟩⟩
        · injection hT with _ h; injection h with _ h; cases h

/-- Texts with a blank between. -/
def joinL : List (List Int) → List Int
  | [] => []
  | [x] => x
  | x :: y :: r => x ++ 32 :: joinL (y :: r)
/-- The tokens of texts with a blank between. -/
def posL : List (Int × List Int) → List (Int × Nat × Nat)
  | [] => []
  | [x] => [(x.1, 0, x.2.length)]
  | x :: y :: r => (x.1, 0, x.2.length) :: (posL (y :: r)).map (sh (x.2.length + 1))

theorem joinL_first (x : Int × List Int) (r : List (Int × List Int)) : ∃ q, Rest q ∧ joinL ((x :: r).map (·.2)) = x.2 ++ q := by
  cases r with
  | nil => exact ⟨[], .inl rfl, by simp [joinL]⟩
  | cons y r => exact ⟨32 :: joinL ((y :: r).map (·.2)), .inr ⟨_, rfl⟩, rfl⟩
theorem read_back (xs : List (Int × List Int)) (hv : ∀ x ∈ xs, Valid x.1 x.2) : wordsK (joinL (xs.map (·.2))) 0 [] = .ok (posL xs) ∧ blankEnd false (joinL (xs.map (·.2))) 0 = 0 ∧
    (posL xs).map (fun u => (u.1, sub (joinL (xs.map (·.2))) u.2.1 u.2.2)) = xs := by
  induction xs with
  | nil => exact ⟨wordsK_end (by simp [joinL]), by simp [joinL, blankEnd, blankLen], rfl⟩
  | cons x r ih =>
    obtain ⟨hne, hT⟩ := hv x (by simp)
    have hpos : 0 < x.2.length := List.length_pos_iff.2 hne
    cases r with
    | nil =>
      obtain ⟨h1, h2⟩ := hT [] (.inl rfl)
      rw [List.append_nil] at h1 h2
      refine ⟨?_, h2, ?_⟩
      · show wordsK x.2 0 [] = _
        rw [wordsK_go hpos h1, wordsK_end (blankEnd_ge _ _ _)]
        rfl
      · simp [posL, joinL, sub]
    | cons y r =>
      obtain ⟨i1, i2, i3⟩ := ih (fun z hz => hv z (List.mem_cons_of_mem _ hz))
      obtain ⟨h1, h2⟩ := hT (32 :: joinL ((y :: r).map (·.2))) (.inr ⟨_, rfl⟩)
      have hJ : joinL ((x :: y :: r).map (·.2)) = x.2 ++ 32 :: joinL ((y :: r).map (·.2)) := rfl
      have hl : (x.2 ++ [32]).length = x.2.length + 1 := by simp
      rw [hJ]
      generalize joinL ((y :: r).map (·.2)) = J at *
      refine ⟨?_, h2, ?_⟩
      · rw [wordsK_go (by simp; omega) h1]
        have hb : blankEnd false (x.2 ++ 32 :: J) x.2.length = x.2.length + 1 + 0 := by
          have e1 := blankEnd_blank (l := x.2 ++ 32 :: J) (k := x.2.length) (by simp) (by simp [blankB])
          rw [e1]
          have e2 := blankEnd_right false (x.2 ++ [32]) J 0
          rw [hl, List.append_assoc, i2] at e2
          exact e2
        rw [hb]
        have e3 := wordsK_right (x.2 ++ [32]) J [(x.1, 0, x.2.length)] J.length 0 [] (by omega) (Nat.zero_le _)
        rw [hl, List.append_assoc, i1] at e3
        exact e3
      · show (_ :: List.map _ (List.map _ _)) = _
        rw [List.map_map]
        congr 1
        · show (x.1, sub (x.2 ++ 32 :: J) 0 x.2.length) = x
          rw [sub_left _ _ _ _ (Nat.le_refl _), sub_self]
        · refine Eq.trans ?_ i3
          apply List.map_congr_left
          intro u _
          have e4 := sub_right (x.2 ++ [32]) J u.2.1 u.2.2
          rw [hl, List.append_assoc] at e4
          show (u.1, sub (x.2 ++ 32 :: J) (x.2.length + 1 + u.2.1) (x.2.length + 1 + u.2.2)) = _
          rw [← e4]; rfl
/-- Tokens that are told come from tokenT. -/
theorem wordsA_from (l : List Int) : ∀ (f k : Nat) (acc ts : List (Int × Nat × Nat)), (∀ t ∈ acc, t.2.1 < l.length ∧ tokenT l t.2.1 = (t.1, t.2.2, 0)) → wordsA l f k acc = .ok ts → ∀ t ∈ ts, t.2.1 < l.length ∧ tokenT l t.2.1 = (t.1, t.2.2, 0) := by
  intro f
  induction f with
  | zero => intro k acc ts ha h; rw [wordsA] at h; injection h with h; subst h; exact ha
  | succ f ih =>
    intro k acc ts ha h
    rw [wordsA] at h
    by_cases hlt : k < l.length
    · rw [if_pos hlt] at h
      by_cases he : (tokenT l k).2.2 = 0
      · rw [if_pos he] at h
        refine ih _ _ _ ?_ h
        intro t ht
        rcases List.mem_append.1 ht with h1 | h1
        · exact ha t h1
        · simp at h1
          subst h1
          exact ⟨hlt, by rw [← he]⟩
      · rw [if_neg he] at h; cases h
    · rw [if_neg hlt] at h; injection h with h; subst h; exact ha
/-- Tokens rise. -/
theorem wordsA_rise (l : List Int) : ∀ (f k : Nat) (acc ts : List (Int × Nat × Nat)), (∀ t ∈ acc, t.2.2 ≤ k) → acc.Pairwise (fun a b => a.2.2 ≤ b.2.1) → wordsA l f k acc = .ok ts → ts.Pairwise (fun a b => a.2.2 ≤ b.2.1) := by
  intro f
  induction f with
  | zero => intro k acc ts ha hp h; rw [wordsA] at h; injection h with h; subst h; exact hp
  | succ f ih =>
    intro k acc ts ha hp h
    rw [wordsA] at h
    by_cases hlt : k < l.length
    · rw [if_pos hlt] at h
      by_cases he : (tokenT l k).2.2 = 0
      · rw [if_pos he] at h
        have hok := tokenT_ok l k hlt he
        have hge := blankEnd_ge false l (tokenT l k).2.1
        refine ih _ _ _ ?_ ?_ h
        · intro t ht
          rcases List.mem_append.1 ht with h1 | h1
          · have := ha t h1; omega
          · simp at h1; subst h1; exact hge
        · rw [List.pairwise_append]
          refine ⟨hp, by simp, ?_⟩
          intro a ha' b hb
          simp at hb; subst hb
          exact ha a ha'
      · rw [if_neg he] at h; cases h
    · rw [if_neg hlt] at h; injection h with h; subst h; exact hp
/-- THE WHOLE: tokens that are told, printed, are told again. -/
theorem words_back (l : List Int) (ts : List (Int × Nat × Nat)) (h : wordsE l = .ok ts) : ∃ us, wordsE (joinL (ts.map fun t => sub l t.2.1 t.2.2)) = .ok us ∧
    us.map (fun u => (u.1, sub (joinL (ts.map fun t => sub l t.2.1 t.2.2)) u.2.1 u.2.2)) = ts.map (fun t => (t.1, sub l t.2.1 t.2.2)) := by
  have hf := wordsA_from l _ _ _ _ (by simp) h
  have hv : ∀ x ∈ ts.map (fun t => (t.1, sub l t.2.1 t.2.2)), Valid x.1 x.2 := by
    intro x hx
    obtain ⟨t, ht, rfl⟩ := List.mem_map.1 hx
    exact token_valid l _ _ _ (hf t ht).1 (hf t ht).2
  obtain ⟨i1, i2, i3⟩ := read_back _ hv
  rw [List.map_map] at i1 i2 i3
  refine ⟨_, ?_, i3⟩
  show wordsK _ (blankEnd false _ 0) [] = _
  rw [show (joinL (ts.map fun t => sub l t.2.1 t.2.2)) = joinL (List.map ((fun x => x.2) ∘ fun t : Int × Nat × Nat => (t.1, sub l t.2.1 t.2.2)) ts) from rfl, i2]
  exact i1
end Go.Proofs.Ytlifkfihpmkffaa
