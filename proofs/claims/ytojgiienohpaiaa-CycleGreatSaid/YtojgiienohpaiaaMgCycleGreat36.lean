/- Texts of one proof, one behind the other. -/
import Derived.Test.YtojgiienohpaiaaMgCycleGreat34
import Derived.Test.YtojgiienohpaiaaMgCycleGreat35
import Derived.Deep.LoopGhost
/- Types that double again and again, as equations. Nothing here speaks of the program's memory. -/
namespace Go.Proofs.Ytojgiienohpaiaa
open Un (cnt)
def vi : Nat → Nat
  | 0 => 0
  | i + 1 => 2 * i + 1
def grE (j : Nat) : Eqn := ((1, (j : Int), (none, 0, 0), .nil), (4, 0, (none, 0, 0), exP 1 ((j : Int) + 1) 1 ((j : Int) + 1)), (0, 0))
def grF (k : Nat) : Eqn := ((1, (k : Int), (none, 0, 0), .nil), (2, 0, (none, 0, 0), .nil), (0, 0))
def grS (k : Nat) : Sys := cls ((List.range k).map grE)
def grT (k : Nat) : Sys := stp (grS k) (grF k)
theorem grS_succ (j : Nat) : grS (j + 1) = stp (grS j) (grE j) := by
  unfold grS
  rw [List.range_succ, List.map_append, cls_app]
  rfl
theorem gvar_snoc2 {G : List Gn} {p : Gn} {v : Int} (h : gvar G v = none) : gvar (G ++ [p]) v = if p.1 = 1 ∧ p.2.1 = v then some G.length else none := by
  induction G with
  | nil => simp [gvar]
  | cons x G ih =>
    simp only [gvar, List.cons_append] at h ⊢
    split at h
    · cases h
    · rename_i hx
      rw [if_neg hx]
      have hg : gvar G v = none := by simpa using h
      rw [ih hg]
      split <;> simp
theorem gvar_keep {G X : List Gn} : ∀ v i, gvar G v = some i → gvar (G ++ X) v = some i := by
  intro v
  induction G with
  | nil => intro i h; cases h
  | cons x G ih =>
    intro i h
    simp only [gvar, List.cons_append] at h ⊢
    split at h
    · rw [if_pos (by assumption)]; exact h
    · rw [if_neg (by assumption)]
      obtain ⟨k, hk, rfl⟩ := Option.map_eq_some_iff.1 h
      rw [ih k hk]
      rfl
/-- The nodes and equations so far. -/
structure GrOk (j : Nat) (s : Sys) : Prop where
  zero : j = 0 → s = ([], [])
  len : 0 < j → s.1.length = 2 * j + 1
  var : ∀ i : Nat, 0 < j → i ≤ j → gvar s.1 (i : Int) = some (vi i)
  fresh : ∀ i : Nat, j < i → gvar s.1 (i : Int) = none
  node : ∀ (t : Nat) (p : Gn), s.1[t]? = some p → p.1 = 1 ∨ ∃ i, i < j ∧ t = 2 * i + 2 ∧ p.1 = 4 ∧ p.2.2.2 = [vi (i + 1), vi (i + 1)]
  arr : ∀ i, i < j → ∃ p : Gn, s.1[2 * i + 2]? = some p ∧ p.1 = 4 ∧ p.2.2.2 = [vi (i + 1), vi (i + 1)]
  eq : ∀ a b, (a, b) ∈ s.2 ↔ ∃ i, i < j ∧ a = vi i ∧ b = 2 * i + 2
theorem gr_step (s : Sys) (j : Nat) (h : GrOk j s) : GrOk (j + 1) (stp s (grE j)) := by
  obtain ⟨G, E⟩ := s
  rcases Nat.eq_zero_or_pos j with rfl | hj
  · have hz := h.zero rfl
    injection hz with h1 h2
    subst h1; subst h2
    have e : stp ([], []) (grE 0) = ([(1, 0, 1, []), (1, 1, 1, []), (4, 0, 3, [1, 1])], [(0, 2)]) := by
      simp only [stp, grE, eqG, eqE, exP, gadd1_eq, gadd_cons, gadd_nil]
      rfl
    rw [e]
    refine ⟨fun h => by omega, fun _ => rfl, fun i _ hi => ?_, fun i hi => ?_, fun t p hp => ?_, fun i hi => ?_, fun a b => ?_⟩
    · match i with
      | 0 => rfl
      | 1 => rfl
      | i + 2 => omega
    · have h0 : ¬ ((0 : Int) = (i : Int)) := by omega
      have h1 : ¬ ((1 : Int) = (i : Int)) := by omega
      simp [gvar, h0, h1]
    · match t with
      | 0 => simp at hp; subst hp; exact .inl rfl
      | 1 => simp at hp; subst hp; exact .inl rfl
      | 2 => simp at hp; subst hp; exact .inr ⟨0, by omega, rfl, rfl, rfl⟩
      | t + 3 => simp at hp
    · obtain rfl : i = 0 := by omega
      exact ⟨_, rfl, rfl, rfl⟩
    · constructor
      · intro hm
        obtain ⟨rfl, rfl⟩ : a = 0 ∧ b = 2 := by simpa using hm
        exact ⟨0, by omega, rfl, rfl⟩
      · rintro ⟨i, hi, rfl, rfl⟩
        obtain rfl : i = 0 := by omega
        simp [vi]
  · have hl : G.length = 2 * j + 1 := h.len hj
    have hv : gvar G (j : Int) = some (vi j) := h.var j hj (Nat.le_refl _)
    have hf : gvar G ((j : Int) + 1) = none := by have := h.fresh (j + 1) (by omega); push_cast at this; exact this
    have g1 : gadd1 G 1 (j : Int) .nil = (G, vi j) := by
      rw [gadd1_eq, gadd_nil]
      simp [gnode, hv]
    obtain ⟨z1, hz1⟩ : ∃ z, 1 + gsum G [] = z := ⟨_, rfl⟩
    have g2 : gadd1 G 1 ((j : Int) + 1) .nil = (G ++ [(1, (j : Int) + 1, z1, [])], G.length) := by
      rw [gadd1_eq, gadd_nil]
      simp [gnode, hf, hz1]
    have g3 : gadd1 (G ++ [(1, (j : Int) + 1, z1, [])]) 1 ((j : Int) + 1) .nil = (G ++ [(1, (j : Int) + 1, z1, [])], G.length) := by
      rw [gadd1_eq, gadd_nil]
      have := gvar_snoc2 (p := (1, (j : Int) + 1, z1, [])) hf
      rw [if_pos ⟨rfl, rfl⟩] at this
      simp [gnode, this]
    obtain ⟨z2, hz2⟩ : ∃ z, 1 + gsum (G ++ [(1, (j : Int) + 1, z1, [])]) [G.length, G.length] = z := ⟨_, rfl⟩
    have g4 : gadd1 G 4 0 (exP 1 ((j : Int) + 1) 1 ((j : Int) + 1)) = (G ++ [(1, (j : Int) + 1, z1, []), (4, 0, z2, [G.length, G.length])], G.length + 1) := by
      rw [gadd1_eq]
      unfold exP
      rw [gadd_cons, gadd_cons, gadd_nil, g2, g3]
      simp [gnode, hz2]
    have e : stp (G, E) (grE j) = (G ++ [(1, (j : Int) + 1, z1, []), (4, 0, z2, [G.length, G.length])], E ++ [(vi j, G.length + 1)]) := by
      simp only [stp, grE, eqG, eqE, g1, g4]
    have hvj : vi (j + 1) = G.length := by rw [hl]; rfl
    rw [e]
    refine ⟨fun h => by omega, fun _ => by simp; omega, fun i _ hi => ?_, fun i hi => ?_, fun t p hp => ?_, fun i hi => ?_, fun a b => ?_⟩
    · show gvar (G ++ [(1, (j : Int) + 1, z1, []), (4, 0, z2, [G.length, G.length])]) (i : Int) = some (vi i)
      rcases Nat.lt_or_ge j i with h1 | h1
      · obtain rfl : i = j + 1 := by omega
        have h2 := gvar_snoc2 (p := (1, (j : Int) + 1, z1, [])) hf
        rw [if_pos ⟨rfl, rfl⟩] at h2
        rw [hvj]
        push_cast
        rw [show G ++ [(1, (j : Int) + 1, z1, []), (4, 0, z2, [G.length, G.length])] = (G ++ [(1, (j : Int) + 1, z1, [])]) ++ [(4, 0, z2, [G.length, G.length])] by simp]
        exact gvar_keep _ _ h2
      · exact gvar_keep _ _ (h.var i hj h1)
    · show gvar (G ++ [(1, (j : Int) + 1, z1, []), (4, 0, z2, [G.length, G.length])]) (i : Int) = none
      rw [show G ++ [(1, (j : Int) + 1, z1, []), (4, 0, z2, [G.length, G.length])] = (G ++ [(1, (j : Int) + 1, z1, [])]) ++ [(4, 0, z2, [G.length, G.length])] by simp]
      have h2 := gvar_snoc2 (p := (1, (j : Int) + 1, z1, [])) (h.fresh i (by omega))
      rw [if_neg (fun h => by have h2 : (j : Int) + 1 = (i : Int) := h.2; omega)] at h2
      rw [gvar_snoc2 h2, if_neg (fun h => by have h1 : (4 : Int) = 1 := h.1; omega)]
    · have hp : (G ++ [(1, (j : Int) + 1, z1, []), (4, 0, z2, [G.length, G.length])])[t]? = some p := hp
      rcases Nat.lt_or_ge t G.length with h1 | h1
      · rw [List.getElem?_append_left h1] at hp
        rcases h.node t p hp with h2 | ⟨i, a1, a2, a3, a4⟩
        · exact .inl h2
        · exact .inr ⟨i, by omega, a2, a3, a4⟩
      · rw [List.getElem?_append_right h1] at hp
        rcases Nat.eq_zero_or_pos (t - G.length) with h2 | h2
        · rw [h2] at hp
          simp at hp
          subst hp
          exact .inl rfl
        · have h3 := (List.getElem?_eq_some_iff.1 hp).1
          simp at h3
          have h4 : t - G.length = 1 := by omega
          rw [h4] at hp
          simp at hp
          subst hp
          exact .inr ⟨j, by omega, by omega, rfl, by rw [hvj]⟩
    · rcases Nat.lt_or_ge i j with h1 | h1
      · obtain ⟨p, a1, a2⟩ := h.arr i h1
        refine ⟨p, ?_, a2⟩
        show (G ++ _)[2 * i + 2]? = some p
        rw [List.getElem?_append_left (by omega)]
        exact a1
      · obtain rfl : i = j := by omega
        refine ⟨(4, 0, z2, [G.length, G.length]), ?_, rfl, by rw [hvj]⟩
        show (G ++ _)[2 * i + 2]? = _
        rw [List.getElem?_append_right (by omega), show 2 * i + 2 - G.length = 1 by omega]
        rfl
    · show (a, b) ∈ E ++ [(vi j, G.length + 1)] ↔ _
      rw [List.mem_append]
      have he := h.eq a b
      constructor
      · rintro (hm | hm)
        · obtain ⟨i, a1, a2⟩ := he.1 hm
          exact ⟨i, by omega, a2⟩
        · obtain ⟨rfl, rfl⟩ : a = vi j ∧ b = G.length + 1 := by simpa using hm
          exact ⟨j, by omega, rfl, by omega⟩
      · rintro ⟨i, hi, rfl, rfl⟩
        rcases Nat.lt_or_ge i j with h1 | h1
        · exact .inl (he.2 ⟨i, h1, rfl, rfl⟩)
        · obtain rfl : i = j := by omega
          right
          rw [hl]
          simp
theorem gr_ok (j : Nat) : GrOk j (grS j) := by
  induction j with
  | zero => exact ⟨fun _ => rfl, fun h => by omega, fun i h => by omega, fun i _ => rfl, fun t p hp => by simp [grS, cls] at hp, fun i hi => by omega, fun a b => ⟨fun h => by simp [grS, cls] at h, fun ⟨i, hi, _⟩ => by omega⟩⟩
  | succ j ih => rw [grS_succ]; exact gr_step _ j ih
/-- The whole. -/
structure GtOk (k : Nat) (s : Sys) : Prop where
  len : s.1.length = 2 * k + 2
  var0 : gvar s.1 0 = some 0
  node : ∀ (t : Nat) (p : Gn), s.1[t]? = some p → p.1 = 1 ∨ (∃ i, i < k ∧ t = 2 * i + 2 ∧ p.1 = 4 ∧ p.2.2.2 = [vi (i + 1), vi (i + 1)]) ∨ (t = 2 * k + 1 ∧ p.1 = 2 ∧ p.2.2.2 = [])
  arr : ∀ i, i < k → ∃ p : Gn, s.1[2 * i + 2]? = some p ∧ p.1 = 4 ∧ p.2.2.2 = [vi (i + 1), vi (i + 1)]
  int : ∃ p : Gn, s.1[2 * k + 1]? = some p ∧ p.1 = 2 ∧ p.2.2.2 = []
  eq : ∀ a b, (a, b) ∈ s.2 ↔ (∃ i, i < k ∧ a = vi i ∧ b = 2 * i + 2) ∨ (a = vi k ∧ b = 2 * k + 1)
theorem gt_ok (k : Nat) : GtOk k (grT k) := by
  unfold grT
  have h := gr_ok k
  obtain ⟨⟨G, E⟩, hs⟩ : ∃ s, grS k = s := ⟨_, rfl⟩
  rw [hs] at h ⊢
  clear hs
  rcases Nat.eq_zero_or_pos k with rfl | hk
  · have hz := h.zero rfl
    injection hz with h1 h2
    subst h1; subst h2
    have e : stp ([], []) (grF 0) = ([(1, 0, 1, []), (2, 0, 1, [])], [(0, 1)]) := by
      simp only [stp, grF, eqG, eqE, gadd1_eq, gadd_nil]
      rfl
    rw [e]
    refine ⟨rfl, rfl, fun t p hp => ?_, fun i hi => by omega, ⟨_, rfl, rfl, rfl⟩, fun a b => ?_⟩
    · match t with
      | 0 => simp at hp; subst hp; exact .inl rfl
      | 1 => simp at hp; subst hp; exact .inr (.inr ⟨rfl, rfl, rfl⟩)
      | t + 2 => simp at hp
    · constructor
      · intro hm
        obtain ⟨rfl, rfl⟩ : a = 0 ∧ b = 1 := by simpa using hm
        exact .inr ⟨rfl, rfl⟩
      · rintro (⟨i, hi, _⟩ | ⟨rfl, rfl⟩)
        · omega
        · simp [vi]
  · have hl : G.length = 2 * k + 1 := h.len hk
    have hv : gvar G (k : Int) = some (vi k) := h.var k hk (Nat.le_refl _)
    have g1 : gadd1 G 1 (k : Int) .nil = (G, vi k) := by
      rw [gadd1_eq, gadd_nil]
      simp [gnode, hv]
    obtain ⟨z1, hz1⟩ : ∃ z, 1 + gsum G [] = z := ⟨_, rfl⟩
    have g2 : gadd1 G 2 0 .nil = (G ++ [(2, 0, z1, [])], G.length) := by
      rw [gadd1_eq, gadd_nil]
      simp [gnode, hz1]
    have e : stp (G, E) (grF k) = (G ++ [(2, 0, z1, [])], E ++ [(vi k, G.length)]) := by
      simp only [stp, grF, eqG, eqE, g1, g2]
    rw [e]
    refine ⟨by simp; omega, gvar_keep _ _ (h.var 0 hk (by omega)), fun t p hp => ?_, fun i hi => ?_, ⟨(2, 0, z1, []), ?_, rfl, rfl⟩, fun a b => ?_⟩
    · have hp : (G ++ [(2, 0, z1, [])])[t]? = some p := hp
      rcases Nat.lt_or_ge t G.length with h1 | h1
      · rw [List.getElem?_append_left h1] at hp
        rcases h.node t p hp with h2 | h2
        · exact .inl h2
        · exact .inr (.inl h2)
      · rw [List.getElem?_append_right h1] at hp
        have h3 := (List.getElem?_eq_some_iff.1 hp).1
        simp at h3
        have h4 : t - G.length = 0 := by omega
        rw [h4] at hp
        simp at hp
        subst hp
        exact .inr (.inr ⟨by omega, rfl, rfl⟩)
    · obtain ⟨p, a1, a2⟩ := h.arr i hi
      refine ⟨p, ?_, a2⟩
      show (G ++ _)[2 * i + 2]? = some p
      rw [List.getElem?_append_left (by omega)]
      exact a1
    · show (G ++ [(2, 0, z1, [])])[2 * k + 1]? = _
      rw [List.getElem?_append_right (by omega), show 2 * k + 1 - G.length = 0 by omega]
      rfl
    · show (a, b) ∈ E ++ [(vi k, G.length)] ↔ _
      rw [List.mem_append, h.eq a b, hl]
      simp
/-- A node's place in the chain, from its end. -/
def vk (k t : Nat) : Nat := if t % 2 = 1 then k - (t + 1) / 2 else k - (t / 2 - 1)
theorem vk_vi (k i : Nat) : vk k (vi i) = k - i := by
  unfold vk
  cases i with
  | zero => simp [vi]
  | succ i =>
    show (if (2 * i + 1) % 2 = 1 then k - (2 * i + 1 + 1) / 2 else _) = _
    rw [if_pos (by omega)]
    omega
theorem vk_arr (k i : Nat) : vk k (2 * i + 2) = k - i := by
  unfold vk
  rw [if_neg (by omega)]
  omega
theorem vk_int (k : Nat) : vk k (2 * k + 1) = 0 := by
  unfold vk
  rw [if_pos (by omega)]
  omega
section CyTs
variable {k : Nat} {s : Sys}
theorem GtOk.mE (h : GtOk k s) : ∀ a b, (a, b) ∈ s.2 → vk k a = vk k b := fun a b hm => by
  rcases (h.eq a b).1 hm with ⟨i, _, rfl, rfl⟩ | ⟨rfl, rfl⟩
  · rw [vk_vi, vk_arr]
  · rw [vk_vi, vk_int]; omega
theorem GtOk.mI (h : GtOk k s) : ∀ (x y : Nat) (p q : Gn), s.1[x]? = some p → s.1[y]? = some q → p.1 ≠ 1 → q.1 ≠ 1 → vk k x = vk k y → Fit p q ∧ ∀ (j a b : Nat), p.2.2.2[j]? = some a → q.2.2.2[j]? = some b → vk k a = vk k b := by
  intro x y p q hp hq p1 q1 he
  rcases h.node x p hp with h1 | ⟨i, i1, i2, i3, i4⟩ | ⟨i2, i3, i4⟩
  · exact absurd h1 p1
  · rcases h.node y q hq with h2 | ⟨j, j1, j2, j3, j4⟩ | ⟨j2, j3, j4⟩
    · exact absurd h2 q1
    · rw [i2, j2, vk_arr, vk_arr] at he
      obtain rfl : i = j := by omega
      exact ⟨⟨by rw [i3, j3], by rw [i4, j4]⟩, fun t a b ha hb => by rw [i4] at ha; rw [j4] at hb; rw [ha] at hb; cases hb; rfl⟩
    · rw [i2, j2, vk_arr, vk_int] at he
      omega
  · rcases h.node y q hq with h2 | ⟨j, j1, j2, j3, j4⟩ | ⟨j2, j3, j4⟩
    · exact absurd h2 q1
    · rw [i2, j2, vk_arr, vk_int] at he
      omega
    · exact ⟨⟨by rw [i3, j3], by rw [i4, j4]⟩, fun t a b ha hb => by rw [i4] at ha; simp at ha⟩
theorem GtOk.no (h : GtOk k s) : ¬ Clash s.1 s.2 := Clash.model (vk k) h.mE h.mI
theorem GtOk.fin (h : GtOk k s) : FinC s.1 s.2 := by
  have key : ∀ n i, vk k i = n → Acc (Nx s.1 s.2) i := by
    intro n
    induction n using Nat.strongRecOn with
    | ind n ih =>
      intro i hi
      refine ⟨_, fun j ⟨z, p, hc, hp, p1, hj⟩ => ?_⟩
      have hz := hc.model (vk k) h.mE h.mI
      rcases h.node z p hp with h1 | ⟨t, t1, t2, t3, t4⟩ | ⟨_, _, t4⟩
      · exact absurd h1 p1
      · rw [t4] at hj
        obtain rfl : j = vi (t + 1) := by simpa using hj
        rw [t2, vk_arr] at hz
        refine ih (vk k (vi (t + 1))) ?_ _ rfl
        rw [vk_vi]
        omega
      · rw [t4] at hj
        simp at hj
  exact fun v i _ => key _ i rfl
/-- The measure of the chain's rest. -/
def chM (f : Int → Int → Int) : Nat → Int
  | 0 => msf f []
  | d + 1 => msf f [chM f d, chM f d]
theorem GtOk.val (h : GtOk k s) {f : Int → Int → Int} {R : Nat → Prop} {val : Nat → Int} (hM : MsN s.1 s.2 f R val) : ∀ d i, i + d = k → R (vi i) → val (vi i) = chM f d := by
  have hvl : ∀ i, i ≤ k → vi i < s.1.length := fun i hi => by
    rw [h.len]
    cases i with
    | zero => show 0 < _; omega
    | succ i => show 2 * i + 1 < _; omega
  intro d
  induction d with
  | zero =>
    intro i hi hR
    obtain rfl : i = k := by omega
    obtain ⟨p, hp, p1, p2⟩ := h.int
    have := (hM.whole (vi i) hR (hvl i (by omega)) (2 * i + 1) p (.eq ((h.eq _ _).2 (.inr ⟨rfl, rfl⟩))) hp (by omega)).1
    rw [p2] at this
    exact this
  | succ d ih =>
    intro i hi hR
    obtain ⟨p, hp, p1, p2⟩ := h.arr i (by omega)
    have := hM.whole (vi i) hR (hvl i (by omega)) (2 * i + 2) p (.eq ((h.eq _ _).2 (.inl ⟨i, by omega, rfl, rfl⟩))) hp (by omega)
    rw [p2] at this
    have h1 := ih (i + 1) (by omega) (this.2 _ (by simp))
    rw [this.1]
    simp only [List.map_cons, List.map_nil, h1]
    rfl
end CyTs
theorem chM_max : ∀ d : Nat, d ≤ 100 → chM maxI d = (d : Int) + 1
  | 0, _ => by decide
  | d + 1, h => by
    have ih := chM_max d (by omega)
    show msf maxI [chM maxI d, chM maxI d] = _
    rw [ih]
    have e1 : maxI 0 ((d : Int) + 1) = (d : Int) + 1 := by unfold maxI; rw [if_pos (by omega)]
    have e2 : maxI ((d : Int) + 1) ((d : Int) + 1) = (d : Int) + 1 := by unfold maxI; rw [if_neg (by omega)]
    show capm (maxI (maxI 0 ((d : Int) + 1)) ((d : Int) + 1)) = _
    rw [e1, e2]
    unfold capm mst
    rw [if_neg (by omega)]
    push_cast
    rfl
theorem chM_sum (d : Nat) : chM (fun a b => a + b) (d + 1) = if 2 * chM (fun a b => a + b) d + 1 < mst then 2 * chM (fun a b => a + b) d + 1 else mst := by
  show capm (0 + chM (fun a b => a + b) d + chM (fun a b => a + b) d) = _
  unfold capm
  split <;> split <;> omega
theorem chM_sum0 : chM (fun a b => a + b) 0 = 1 := by decide
theorem chM_le (d : Nat) : 1 ≤ chM (fun a b => a + b) d ∧ chM (fun a b => a + b) d ≤ mst := by
  induction d with
  | zero => decide
  | succ d ih => rw [chM_sum]; unfold mst at *; split <;> omega
end Go.Proofs.Ytojgiienohpaiaa
/- CycleGreat, walked. -/
namespace Go.Proofs.Ytojgiienohpaiaa
open Go.RowKit Go.Shelf
open Un (Else StM rowI UFo own_else dg swp wp_world paint cnt Rings)
set_option maxRecDepth 100000
theorem u8_wf {n : Int} (h : (Lit.int .u8 n).wf = true) : 0 ≤ n ∧ n < 256 := by
  have e1 : IntKind.u8.min = 0 := by decide
  have e2 : IntKind.u8.max = 255 := by decide
  simp only [Lit.wf, Bool.and_eq_true, decide_eq_true_eq] at h
  omega
section CyUs
variable {O : Nat → Prop} {w : World} {cb m : Nat} {G : List Gn} {E : List (Nat × Nat)} {st fs : Int}
theorem depth_cs (h : CsM O w cb G E st fs m) (hfs : 0 ≤ fs ∧ fs ≤ 18000000000) (hG : G.length ≤ 400000) (hgn : GN G) (hgl : GL G) (v : Int) (i : Nat) (hv : gvar G v = some i) :
    Calls Try.prog 10 #[.pointer (some ⟨cb, 0, none⟩), .int .i64 v] w (MePost O w cb G E st fs m maxI i) := by
  have HM := Lib.hid (measure_cs h hfs hG hgn hgl both_depth v i hv)
  clear h hfs hG hgn hgl hv
  go_enter Try.func10, Try.ntmps10
  go_wp2_with fail
  refine HM.out.mono ?_
  rintro x w2 ⟨ok, q, k, rfl, hr⟩
  have H2 := Lib.hid hr
  clear hr
  go_wp2_with fail
  exact bodyPost_ret (results_tmp2 rfl _ _ _) rfl ⟨ok, q, k, rfl, H2.out⟩
theorem size_cs (h : CsM O w cb G E st fs m) (hfs : 0 ≤ fs ∧ fs ≤ 18000000000) (hG : G.length ≤ 400000) (hgn : GN G) (hgl : GL G) (v : Int) (i : Nat) (hv : gvar G v = some i) :
    Calls Try.prog 11 #[.pointer (some ⟨cb, 0, none⟩), .int .i64 v] w (MePost O w cb G E st fs m (fun a b => a + b) i) := by
  have HM := Lib.hid (measure_cs h hfs hG hgn hgl both_size v i hv)
  clear h hfs hG hgn hgl hv
  go_enter Try.func11, Try.ntmps11
  go_wp2_with fail
  refine HM.out.mono ?_
  rintro x w2 ⟨ok, q, k, rfl, hr⟩
  have H2 := Lib.hid hr
  clear hr
  go_wp2_with fail
  exact bodyPost_ret (results_tmp2 rfl _ _ _) rfl ⟨ok, q, k, rfl, H2.out⟩
end CyUs
theorem wf_nat (n : Nat) (h : n ≤ 1000000) : (Lit.int .i64 (n : Int)).wf = true := by have h1 := wrap64_wf (n : Int); rwa [IntWalk.wrap64_in _ (by omega)] at h1
theorem grT_gn (k : Nat) (hk : k ≤ 60) : GN (grT k).1 := by
  have e : grT k = cls ((List.range k).map grE ++ [grF k]) := by
    unfold grT grS
    rw [cls_app]
    rfl
  rw [e]
  refine cls_GN _ fun x hx => ?_
  rcases List.mem_append.1 hx with hx | hx
  · obtain ⟨j, hj, rfl⟩ := List.mem_map.1 hx
    have hj := List.mem_range.1 hj
    have h1 := wf_nat j (by omega)
    have h2 := wf_nat (j + 1) (by omega)
    push_cast at h2
    exact ⟨⟨h1, trivial⟩, ⟨(show (Lit.int .i64 0).wf = true by decide), ⟨h2, trivial, h2, trivial, trivial⟩⟩⟩
  · obtain rfl : x = grF k := by simpa using hx
    exact ⟨⟨wf_nat k (by omega), trivial⟩, ⟨(show (Lit.int .i64 0).wf = true by decide), trivial⟩⟩
theorem grT_gl (k : Nat) : GL (grT k).1 := by
  have e : grT k = cls ((List.range k).map grE ++ [grF k]) := by
    unfold grT grS
    rw [cls_app]
    rfl
  rw [e]
  exact cls_gl _
theorem TyLat.int0 {O : Nat → Prop} {w : World} : TyLat O w 2 0 (none, 0, 0) .nil := fun W _ => ⟨.nil, fun _ => rfl, rfl, no_parts _ _, ⟨by decide, trivial, trivial⟩, rfl⟩
set_option maxHeartbeats 8000000 in
theorem cgreat_law (w : World) (n : Nat) (hn : n < 256) : Calls Try.prog 3 #[.int .u8 (n : Nat)] w fun e w' => e = .returned (.bool true) ∧ Below w.heap.size w w' := by
  have HAW := Lib.hid awake13
  obtain ⟨k, hk⟩ : ∃ k, n % 60 = k := ⟨_, rfl⟩
  have hk60 : k < 60 := by omega
  have hmod : ((n : Int)).tmod 60 = (k : Int) := by rw [Int.tmod_eq_emod_of_nonneg (by omega), ← hk]; omega
  have HK := Lib.hid hk
  clear hk
  go_enter Try.func3, Try.ntmps3
  go_wp2_with fail
  clear hmod
  refine (new_cs w).mono ?_
  rintro e w1 ⟨c, rfl, hC1, hb1⟩
  obtain ⟨O1, hO1, hC1⟩ := hC1.tight
  have H1 := Lib.hid (show ∃ O, Clo O w1 c (grS 0) 0 ∧ (∀ k, O k → w.heap.size ≤ k ∧ k < w1.heap.size) ∧ Below w.heap.size w w1 from ⟨O1, .inl ⟨0, 0, 0, hC1, by omega, by omega, by omega, by omega⟩, hO1, hb1⟩)
  clear hO1 hC1 hb1
  go_wp2_with fail
  go_loopw [5] (fun s wr => ∃ j : Nat, s = .int .i64 (j : Nat) ∧ j ≤ k ∧ ∃ O, Clo O wr c (grS j) j ∧ (∀ k, O k → w.heap.size ≤ k ∧ k < wr.heap.size) ∧ Below w.heap.size w wr) (fun s _ => k - (intOf s).toNat)
  case atStart => exact ⟨0, rfl, Nat.zero_le _, H1.out⟩
  case round =>
    obtain ⟨j, rfl, hj, O, hC, hO, hb⟩ := hrel
    have HT := Lib.hid (And.intro hC (And.intro hO hb))
    clear hC hO hb H1
    by_cases hjl : j < k
    · have f1 : decide ((j : Int) < (k : Int)) = true := decide_eq_true (by omega)
      have f2 : decide (j < k) = true := decide_eq_true hjl
      go_wp2_with fail
      refine (var_any (j : Int) _).mono ?_
      rintro e w2 ⟨rfl, hb2⟩
      dsimp only [tyVal]
      have H2 := Lib.hid hb2
      clear hb2
      go_wp2_with fail
      refine (var_any ((j : Int) + 1) _).mono ?_
      rintro e w3 ⟨rfl, hb3⟩
      dsimp only [tyVal]
      have H3 := Lib.hid (H2.out.trans (hb3.mono H2.out.size))
      clear hb3
      go_wp2_with fail
      refine (var_any ((j : Int) + 1) _).mono ?_
      rintro e w3' ⟨rfl, hb3⟩
      dsimp only [tyVal]
      have H3' := Lib.hid (H3.out.trans (hb3.mono H3.out.size))
      clear hb3
      obtain ⟨w4, hw4⟩ : ∃ w4, w3'.alloc (.cells #[.int .i64 1, .int .i64 ((j : Int) + 1), .slice none 0 0, .int .i64 1, .int .i64 ((j : Int) + 1), .slice none 0 0] 28) = w4 := ⟨_, rfl⟩
      have hx4 : w4.heap[w3'.heap.size]? = some (.cells #[.int .i64 1, .int .i64 ((j : Int) + 1), .slice none 0 0, .int .i64 1, .int .i64 ((j : Int) + 1), .slice none 0 0] 28) := by rw [← hw4]; exact heap_alloc_new _ _
      have hb4 : Below w3'.heap.size w3' w4 := by rw [← hw4]; exact (Below.refl _ _).alloc (Nat.le_refl _) _
      have har := arrow_pair w4 w3'.heap.size 2 1 ((j : Int) + 1) 1 ((j : Int) + 1) (none, 0, 0) (none, 0, 0) .nil .nil (Array.getElem?_eq_some_iff.1 hx4).1 (Nat.le_refl _) (by unfold maxLen; omega) (cell_of_row _ _ 0 _ _ (0, 0) hx4) (cell_of_row _ _ 1 _ _ (0, 0) hx4) (cell_of_row _ _ 2 _ _ (0, 0) hx4) (cell_of_row _ _ 3 _ _ (0, 0) hx4) (cell_of_row _ _ 4 _ _ (0, 0) hx4) (cell_of_row _ _ 5 _ _ (0, 0) hx4) (no_parts _ _) (no_parts _ _) (by simp [Fo.size])
      have HAR := Lib.hid har
      have H4 := Lib.hid (H3'.out.trans (hb4.mono H3'.out.size))
      have HW4 := Lib.hid hw4
      clear har hx4 hb4 hw4
      go_wp2_with fail
      rw [HW4.out]
      refine HAR.out.mono ?_
      clear HAR
      rintro e w5 ⟨⟨u1, u2, u3⟩, rfl, hb5, hF5⟩
      dsimp only [tyVal, slv]
      have hb15 : Below wr.heap.size wr w5 := H4.out.trans (hb5.mono H4.out.size)
      have hC5 := HT.out.1.keep (T := fun _ => False) (Else.of_below hb15) fun _ _ h => h
      have hal : alone 1 ((j : Int) + 1) 0 = true := by simp [alone]; omega
      have hw1 := wf_nat (j + 1) (by omega)
      push_cast at hw1
      have hsl : (grS j).1.length ≤ 2 * j + 1 := by
        rcases Nat.eq_zero_or_pos j with h | h
        · rw [(gr_ok j).zero h]; simp
        · rw [(gr_ok j).len h]; exact Nat.le_refl _
      have HEQ := equate_clo hC5 ((1, (j : Int), (none, 0, 0), .nil), (4, 0, (u1, u2, u3), exP 1 ((j : Int) + 1) 1 ((j : Int) + 1)), (0, 0)) (TyLat.var (j : Int) (by omega) (wf_nat j (by omega))) (TyLat.fresh hF5 (fun i hi => by have h1 := (HT.out.2.1 i hi).2; have h2 := H4.out.size; omega) ⟨rfl, ⟨hal, trivial, hal, trivial, trivial⟩, trivial⟩ ⟨(show (Lit.int .i64 0).wf = true by decide), ⟨hw1, trivial, hw1, trivial, trivial⟩, trivial⟩) (by have e : sz1 ((1, (j : Int), (none, 0, 0), .nil), (4, 0, (u1, u2, u3), exP 1 ((j : Int) + 1) 1 ((j : Int) + 1)), (0, 0)) = 4 := rfl; omega) (by omega)
      dsimp only [t1V, tyVal, slv] at HEQ
      have HEQH := Lib.hid HEQ
      have H5 := Lib.hid hb15
      clear HEQ hC5 hF5 hb5 hb15 hal hw1 hsl
      go_wp2_with fail
      refine HEQH.out.mono ?_
      clear HEQH
      rintro e w8 ⟨⟨r8, rfl⟩, hC8, hE8⟩
      have hb8 : Below w.heap.size w w8 := (HT.out.2.2.trans (H5.out.mono HT.out.2.2.size)).trans (hE8.below (fun k hk => (HT.out.2.1 k hk).1) (Nat.le_trans HT.out.2.2.size H5.out.size))
      obtain ⟨O8, hO8, hC8⟩ := hC8.tight
      have H8 := Lib.hid (show Clo O8 w8 c (grS (j + 1)) (j + 1) ∧ (∀ k, O8 k → w.heap.size ≤ k ∧ k < w8.heap.size) ∧ Below w.heap.size w w8 from ⟨by rw [grS_succ]; exact hC8, fun k hk => ⟨by
        have h1 := H5.out.size
        have h2 := HT.out.2.2.size
        rcases (hO8 k hk).1 with h | h
        · exact (HT.out.2.1 k h).1
        · omega, (hO8 k hk).2⟩, hb8⟩)
      have HJL := Lib.hid hjl
      clear hO8 hC8 hE8 hb8
      go_wp2_with fail
      go_roundw
      case rel => exact ⟨j + 1, by go_num, HJL.out, O8, H8.out⟩
      case measure => have := HJL.out; simp [intOf]; omega
    · have f1 : decide ((j : Int) < (k : Int)) = false := decide_eq_false (by omega)
      have f2 : decide (j < k) = false := decide_eq_false hjl
      have hje : j = k := by omega
      have HK2 := Lib.hid (show Clo O wr c (grS k) k ∧ (∀ k, O k → w.heap.size ≤ k ∧ k < wr.heap.size) ∧ Below w.heap.size w wr from by have h := HT.out; rw [hje] at h; exact h)
      clear hje HT
      go_wp2_with fail
      refine (var_any (k : Int) _).mono ?_
      rintro e w2 ⟨rfl, hb2⟩
      dsimp only [tyVal]
      have hC2 := HK2.out.1.keep (T := fun _ => False) (Else.of_below hb2) fun _ _ h => h
      have hsl : (grS k).1.length ≤ 2 * k + 1 := by
        rcases Nat.eq_zero_or_pos k with h | h
        · rw [(gr_ok k).zero h]; simp
        · rw [(gr_ok k).len h]; exact Nat.le_refl _
      have HEQ := equate_clo hC2 (grF k) (TyLat.var (k : Int) (by omega) (wf_nat k (by omega))) TyLat.int0 (by have e : sz1 (grF k) = 2 := rfl; omega) (by omega)
      dsimp only [t1V, tyVal, slv, grF] at HEQ
      have HEQH := Lib.hid HEQ
      have H2 := Lib.hid hb2
      clear HEQ hC2 hb2 hsl f1 f2 hjl hj
      go_wp2_with fail
      refine HEQH.out.mono ?_
      clear HEQH
      rintro e w8 ⟨⟨r8, rfl⟩, hC8, hE8⟩
      have hb8 : Below w.heap.size w w8 := (HK2.out.2.2.trans (H2.out.mono HK2.out.2.2.size)).trans (hE8.below (fun k hk => (HK2.out.2.1 k hk).1) (Nat.le_trans HK2.out.2.2.size H2.out.size))
      have hC8 : Clo (fun k => O k ∨ w2.heap.size ≤ k) w8 c (grT k) (k + 1) := hC8
      have hO8 : ∀ i, (O i ∨ w2.heap.size ≤ i) → w.heap.size ≤ i := fun i hi => by
        have h1 := H2.out.size
        have h2 := HK2.out.2.2.size
        rcases hi with h | h
        · exact (HK2.out.2.1 i h).1
        · omega
      have hno := (gt_ok k).no
      obtain ⟨st, fs, m, hC9, _, _, hf1, hf2⟩ : ∃ st fs m, CsM (fun k => O k ∨ w2.heap.size ≤ k) w8 c (grT k).1 (grT k).2 st fs m ∧ 0 ≤ st ∧ 0 ≤ st ∧ 0 ≤ fs ∧ fs ≤ 6000000000 := by
        rcases hC8 with h | h
        · obtain ⟨st, fs, m, h1, h2, h3, h4, h5⟩ := h
          have hkk : ((k + 1 : Nat) : Int) ≤ 60 := by omega
          exact ⟨st, fs, m, h1, h2, h2, h4, by have h5 : fs ≤ ((k + 1 : Nat) : Int) * 100000000 := h5; omega⟩
        · exact absurd h.1 hno
      have hlen := (gt_ok k).len
      have HDP := Lib.hid (depth_cs hC9 (by omega) (by omega) (grT_gn k (by omega)) (grT_gl k) 0 0 (gt_ok k).var0)
      have H8 := Lib.hid (And.intro hb8 (And.intro hO8 (And.intro hf1 (And.intro hf2 hlen))))
      clear hC8 hC9 hE8 hb8 hO8 hno hf1 hf2 hlen
      go_wp2_with fail
      go_loopg [6, 7] k (fun nn s6 s7 wr => ∃ d : Nat, s7 = .int .i64 (d : Nat) ∧ d ≤ k ∧ k ≤ d + nn ∧ s6 = .int .i64 (chM (fun a b => a + b) d) ∧ wr = w8)
      case atStart => exact ⟨0, rfl, Nat.zero_le _, by omega, by rw [chM_sum0], rfl⟩
      case round =>
        obtain ⟨d, rfl, hd, hdn, rfl, rfl⟩ := hrel
        have hcl := chM_le d
        have hcs := chM_sum d
        obtain ⟨q, hq⟩ : ∃ q, chM (fun a b => a + b) d = q := ⟨_, rfl⟩
        rw [hq] at hcl hcs ⊢
        obtain ⟨q', hq'⟩ : ∃ q', chM (fun a b => a + b) (d + 1) = q' := ⟨_, rfl⟩
        rw [hq'] at hcs
        have hcl1 : 1 ≤ q := hcl.1
        have hcl2 : q ≤ 1099511627776 := hcl.2
        by_cases hdl : d < k
        · have f1 : decide ((d : Int) < (k : Int)) = true := decide_eq_true (by omega)
          have f2 : decide (d < k) = true := decide_eq_true hdl
          have hm : (Builtin.min_ #[3, 3] 3 #[.int .i64 1099511627776, .int .i64 (2 * q + 1)]).run Try.prog wr = .ok (.int .i64 q') wr := by
            rw [hcs]
            exact min_run wr 1099511627776 (2 * q + 1)
          have HD := Lib.hid (And.intro hq (And.intro hq' (And.intro hdl hdn)))
          clear hq hq' hcs hcl hdn
          go_wp2_with fail
          go_roundg (k - (d + 1))
          case rel => exact ⟨d + 1, by go_num, HD.out.2.2.1, by omega, by rw [HD.out.2.1], rfl⟩
          case measure => have h1 := HD.out.2.2.1; have h2 := HD.out.2.2.2; omega
        · have f1 : decide ((d : Int) < (k : Int)) = false := decide_eq_false (by omega)
          have f2 : decide (d < k) = false := decide_eq_false hdl
          have hde : d = k := by omega
          rw [hde] at hq
          have HQ := Lib.hid hq
          clear hq hq' hcs hcl hcl1 hcl2 hdn hde hdl hd
          go_wp2_with fail
          refine HDP.out.mono ?_
          clear HDP
          rintro e wa ⟨ok, q1, ka, rfl, hok, _, hval, hka, hCa, hEa⟩
          obtain rfl : ok = true := hok.2 (gt_ok k).fin
          obtain ⟨R, val, hM, rfl⟩ := hval rfl
          have hv1 := (gt_ok k).val hM k 0 (by omega) (hM.vars 0 0 (gt_ok k).var0)
          have hv1 : val 0 = (k : Int) + 1 := hv1.trans (chM_max k (by omega))
          rw [hv1]
          have hlen := H8.out.2.2.2.2
          have hba : Below w.heap.size w wa := H8.out.1.trans (hEa.below H8.out.2.1 H8.out.1.size)
          have HSZ := Lib.hid (size_cs hCa (by have h1 := H8.out.2.2.1; have h2 := H8.out.2.2.2.1; omega) (by omega) (grT_gn k (by omega)) (grT_gl k) 0 0 (gt_ok k).var0)
          have Ha := Lib.hid (And.intro hba hka)
          clear hok hval hM hv1 hlen hba hka hCa hEa
          go_wp2_with fail
          refine HSZ.out.mono ?_
          clear HSZ
          rintro e wb ⟨ok, q2, kb, rfl, hok, _, hval, hkb, hCb, hEb⟩
          obtain rfl : ok = true := hok.2 (gt_ok k).fin
          obtain ⟨R, val, hM, rfl⟩ := hval rfl
          have hv1 := (gt_ok k).val hM k 0 (by omega) (hM.vars 0 0 (gt_ok k).var0)
          have hv1 : val 0 = q := hv1.trans HQ.out
          rw [hv1]
          have hlen := H8.out.2.2.2.2
          have hbb : Below w.heap.size w wb := Ha.out.1.trans (hEb.below H8.out.2.1 Ha.out.1.size)
          have HFN := Lib.hid (finite_cs hCb (by have h1 := H8.out.2.2.1; have h2 := H8.out.2.2.2.1; have h3 := Ha.out.2; omega) (by omega) (grT_gn k (by omega)) (grT_gl k))
          have Hb := Lib.hid hbb
          clear hok hval hM hv1 hlen hbb hkb hCb hEb
          have g1 : ((k : Int) + 1 == (k : Int) + 1) = true := by simp
          have g2 : (q == q) = true := by simp
          go_wp2_with fail
          refine HFN.out.mono ?_
          clear HFN
          rintro e wc ⟨t, kc, rfl, ht, _, _, hEc⟩
          obtain rfl : t = true := ht.2 (gt_ok k).fin
          have Hc := Lib.hid (Hb.out.trans (hEc.below H8.out.2.1 Hb.out.size))
          clear ht hEc
          go_wp2_with fail
          refine (HAW.out wc).mono ?_
          rintro e wd ⟨rfl, hbd⟩
          have Hd := Lib.hid (Hc.out.trans (hbd.mono Hc.out.size))
          clear hbd
          go_wp2_with fail
          exact bodyPost_ret (results_tmp rfl _ _ _) rfl ⟨rfl, Hd.out⟩
end Go.Proofs.Ytojgiienohpaiaa
