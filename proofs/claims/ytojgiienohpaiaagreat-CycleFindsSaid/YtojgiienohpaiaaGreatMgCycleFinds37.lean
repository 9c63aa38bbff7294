/- Texts of one proof, one behind the other. -/
import Derived.Test.YtojgiienohpaiaaGreatMgCycleFinds33
import Derived.Test.YtojgiienohpaiaaGreatMgCycleFinds36
namespace Go.Proofs.YtojgiienohpaiaaGreat
open Un (cnt)
def Cs (G : List Gn) (cc : Nat → Nat) (a b : Nat) : Prop := ∃ (k : Nat) (p : Gn) (u : Nat), G[k]? = some p ∧ cc k = a ∧ p.1 ≠ 1 ∧ u ∈ p.2.2.2 ∧ cc u = b
inductive Cp (G : List Gn) (cc : Nat → Nat) : Nat → Nat → Prop
  | one {a b : Nat} (h : Cs G cc a b) : Cp G cc a b
  | more {a b c : Nat} (h : Cp G cc a b) (k : Cs G cc b c) : Cp G cc a c
abbrev AccC (G : List Gn) (cc : Nat → Nat) (c : Nat) : Prop := Acc (fun b a => Cs G cc a b) c
section CyVs
variable {G : List Gn} {cc col ro : Nat → Nat} {kn : Kn} {E : List (Nat × Nat)} {a b c i : Nat}
theorem Cp.trans (h : Cp G cc a b) (k : Cp G cc b c) : Cp G cc a c := by
  induction k with
  | one s => exact .more h s
  | more _ s ih => exact .more ih s
theorem AccC.down (h : AccC G cc a) (k : Cp G cc a b) : AccC G cc b := by
  induction k with
  | one s => exact h.inv s
  | more _ s ih => exact ih.inv s
theorem Cp.front (h : Cp G cc a b) : ∃ d, Cs G cc a d ∧ (d = b ∨ Cp G cc d b) := by
  induction h with
  | one s => exact ⟨_, s, .inl rfl⟩
  | more _ s ih =>
    obtain ⟨d, h1, h2⟩ := ih
    rcases h2 with rfl | h2
    · exact ⟨d, h1, .inr (.one s)⟩
    · exact ⟨d, h1, .inr (.more h2 s)⟩
theorem AccC.no (h : AccC G cc a) : ¬ Cp G cc a a := by
  induction h with
  | intro a _ ih =>
    intro k
    obtain ⟨d, h1, h2⟩ := k.front
    rcases h2 with rfl | h2
    · exact ih d h1 (.one h1)
    · exact ih d h1 (h2.trans (.one h1))
theorem nodup_sub {V L : List Nat} (hn : V.Nodup) (hs : ∀ x ∈ V, x ∈ L) : V.length ≤ L.length := by
  induction V generalizing L with
  | nil => simp
  | cons x V ih =>
    have hx := hs x List.mem_cons_self
    obtain ⟨h1, h2⟩ := List.nodup_cons.1 hn
    have h3 := ih h2 (L := L.erase x) fun y hy => (List.mem_erase_of_ne (fun e => h1 (by rw [← e]; exact hy))).2 (hs y (List.mem_cons_of_mem _ hy))
    have h4 := List.length_erase_of_mem hx
    have h5 := List.length_pos_of_mem hx
    rw [List.length_cons]
    omega
theorem acc_noloop (hp : ∀ p ∈ G, ∀ u ∈ p.2.2.2, u < G.length) : ∀ (m : Nat) (V : List Nat) (c : Nat), V.Nodup → (∀ v ∈ V, v ∈ (List.range G.length).map cc) → (∀ v ∈ V, Cp G cc v c) → c ∈ (List.range G.length).map cc → (∀ d, (d = c ∨ Cp G cc c d) → ¬ Cp G cc d d) → G.length ≤ V.length + m → AccC G cc c := by
  intro m
  induction m with
  | zero =>
    intro V c hn hV hR hc hno hl
    exfalso
    have hcV : c ∉ V := fun h => hno c (.inl rfl) (hR c h)
    have h1 := nodup_sub (V := c :: V) (L := (List.range G.length).map cc) (List.nodup_cons.2 ⟨hcV, hn⟩) fun x hx => by
      rcases List.mem_cons.1 hx with rfl | hx
      · exact hc
      · exact hV x hx
    rw [List.length_cons, List.length_map, List.length_range] at h1
    omega
  | succ m ih =>
    intro V c hn hV hR hc hno hl
    have hcV : c ∉ V := fun h => hno c (.inl rfl) (hR c h)
    refine ⟨_, fun d hd => ?_⟩
    have hd : Cs G cc c d := hd
    refine ih (c :: V) d (List.nodup_cons.2 ⟨hcV, hn⟩) (fun v hv => ?_) (fun v hv => ?_) ?_ (fun e he => ?_) (by rw [List.length_cons]; omega)
    · rcases List.mem_cons.1 hv with rfl | hv
      · exact hc
      · exact hV v hv
    · rcases List.mem_cons.1 hv with rfl | hv
      · exact .one hd
      · exact .more (hR v hv) hd
    · obtain ⟨k, p, u, h1, h2, h3, h4, h5⟩ := hd
      exact List.mem_map.2 ⟨u, List.mem_range.2 (hp p (List.mem_of_getElem? h1) u h4), h5⟩
    · rcases he with rfl | he
      · exact hno _ (.inr (.one hd))
      · exact hno _ (.inr ((Cp.one hd).trans he))
theorem acc_colors (hp : ∀ p ∈ G, ∀ u ∈ p.2.2.2, u < G.length) (hi : i < G.length) : ¬ AccC G cc (cc i) ↔ ∃ d, (d = cc i ∨ Cp G cc (cc i) d) ∧ Cp G cc d d := by
  constructor
  · intro h
    refine Classical.byContradiction fun hno => h ?_
    exact acc_noloop hp G.length [] (cc i) (by simp) (fun v hv => by cases hv) (fun v hv => by cases hv) (List.mem_map.2 ⟨i, List.mem_range.2 hi, rfl⟩) (fun d hd k => hno ⟨d, hd, k⟩) (by simp)
  · rintro ⟨d, hd, k⟩ h
    rcases hd with rfl | hd
    · exact h.no k
    · exact (h.down hd).no k
theorem Cp.at (hp : ∀ p ∈ G, ∀ u ∈ p.2.2.2, u < G.length) (h : Cp G cc a b) : ∃ u, u < G.length ∧ cc u = b := by
  cases h with
  | one s => obtain ⟨k, p, u, h1, h2, h3, h4, h5⟩ := s; exact ⟨u, hp p (List.mem_of_getElem? h1) u h4, h5⟩
  | more _ s => obtain ⟨k, p, u, h1, h2, h3, h4, h5⟩ := s; exact ⟨u, hp p (List.mem_of_getElem? h1) u h4, h5⟩
theorem acc_color (h : Both G col ro kn E cc) (hi : i < G.length) : Acc (Nx G E) i ↔ AccC G cc (cc i) := by
  constructor
  · intro ha
    induction ha with
    | intro i _ ih =>
      refine ⟨_, fun b hb => ?_⟩
      obtain ⟨k, p, u, h1, h2, h3, h4, rfl⟩ := hb
      exact ih u ⟨k, p, (h.cl hi (lt_of_get h1)).2 h2.symm, h1, h3, h4⟩ (h.rc.parts k p h1 u h4)
  · intro ha
    obtain ⟨c, hc⟩ : ∃ c, cc i = c := ⟨_, rfl⟩
    rw [hc] at ha
    induction ha generalizing i with
    | intro c _ ih =>
      subst hc
      refine ⟨_, fun j ⟨z, p, h1, h2, h3, h4⟩ => ?_⟩
      exact ih (cc j) ⟨z, p, j, h2, ((h.cl hi (lt_of_get h2)).1 h1).symm, h3, h4, rfl⟩ (h.rc.parts z p h2 j h4) rfl
def NextIs (G : List Gn) (cc : Nat → Nat) (i : Nat) (P : List Nat) : Prop :=
  (∃ (k : Nat) (p : Gn), G[k]? = some p ∧ cc k = cc i ∧ p.1 ≠ 1 ∧ P = p.2.2.2) ∨ ((∀ (k : Nat) (p : Gn), G[k]? = some p → cc k = cc i → p.1 = 1) ∧ P = [])
theorem NextIs.all (h : Both G col ro kn E cc) (_hi : i < G.length) {P : List Nat} (hP : NextIs G cc i P) (d : Nat) : Cs G cc (cc i) d ↔ ∃ u ∈ P, cc u = d := by
  rcases hP with ⟨k, p, h1, h2, h3, rfl⟩ | ⟨h1, rfl⟩
  · constructor
    · rintro ⟨z, q, u, g1, g2, g3, g4, rfl⟩
      have hkz := (h.cl (lt_of_get h1) (lt_of_get g1)).2 (h2.trans g2.symm)
      have hf : Fit p q := Classical.byContradiction fun hf => h.nc ⟨k, z, p, q, hkz, h1, g1, h3, g3, hf⟩
      obtain ⟨t, ht, rfl⟩ := List.getElem_of_mem g4
      have htp : t < p.2.2.2.length := by have := hf.2; omega
      exact ⟨p.2.2.2[t], List.getElem_mem htp, h.hc k z p q h1 g1 (h2.trans g2.symm) h3 hf.1 hf.2 t _ _ (List.getElem?_eq_getElem htp) (List.getElem?_eq_getElem ht)⟩
    · rintro ⟨u, hu, rfl⟩
      exact ⟨k, p, u, h1, h2, h3, hu, rfl⟩
  · constructor
    · rintro ⟨z, q, u, g1, g2, g3, g4, rfl⟩
      exact absurd (h1 z q g1 g2) g3
    · rintro ⟨u, hu, _⟩
      cases hu
end CyVs
end Go.Proofs.YtojgiienohpaiaaGreat
