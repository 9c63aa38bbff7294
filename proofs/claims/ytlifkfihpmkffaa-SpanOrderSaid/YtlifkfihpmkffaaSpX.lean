/- The contract of span.Within: whether each merged span of the one lies in a merged span of the other. -/
import Derived.Test.YtlifkfihpmkffaaSpC
import Derived.Deep.QuietTactic
import Derived.BigQuiet
namespace Go.Proofs.Ytlifkfihpmkffaa
open Go.RowKit

def inB (m : List Sp) (s : Sp) : Bool := m.any fun t => decide (t.1 ≤ s.1) && decide (s.2 ≤ t.2)
def withinB (l m : List Sp) : Bool := l.all (inB m)
theorem inB_yes (m : List Sp) (s : Sp) (j : Nat) (hj : j < m.length) (h1 : m[j].1 ≤ s.1) (h2 : s.2 ≤ m[j].2) : inB m s = true := by
  unfold inB
  rw [List.any_eq_true]
  exact ⟨m[j], List.getElem_mem hj, by simp [h1, h2]⟩
theorem inB_no (m : List Sp) (hc : Canon m) (s : Sp) (j : Nat) (hb : ∀ i (hi : i < m.length), i < j → m[i].2 < s.2) (hj : j = m.length ∨ ∃ h : j < m.length, s.1 < m[j].1) : inB m s = false := by
  unfold inB
  rw [List.any_eq_false]
  intro t ht
  obtain ⟨i, hi, rfl⟩ := List.getElem_of_mem ht
  simp only [Bool.and_eq_true, decide_eq_true_eq, not_and]
  intro h1 h2
  rcases Nat.lt_or_ge i j with hlt | hge
  · have := hb i hi hlt; omega
  · rcases hj with rfl | ⟨hjl, hj⟩
    · omega
    · rcases Nat.lt_or_ge j i with h | h
      · have h3 := List.pairwise_iff_getElem.1 hc.2 j i hjl hi h
        have h4 := hc.1 _ (List.getElem_mem hjl)
        omega
      · have : i = j := by omega
        subst this
        omega
theorem canon_rise (l : List Sp) (hc : Canon l) (i j : Nat) (hj : j < l.length) (hij : i < j) : l[i].2 < l[j].2 := by
  have h3 := List.pairwise_iff_getElem.1 hc.2 i j (by omega) hj hij
  have h4 := hc.1 _ (List.getElem_mem hj)
  omega
/-- What Within owes. -/
def WithinPost (la lb : List Sp) (w : World) (e : Ending) (w' : World) : Prop :=
  ∃ A B, Canon A ∧ (∀ i, Cov i A ↔ Cov i la) ∧ Canon B ∧ (∀ i, Cov i B ↔ Cov i lb) ∧ e = .returned (.bool (withinB A B)) ∧ Below w.heap.size w w'
set_option maxHeartbeats 4000000 in
set_option maxRecDepth 100000 in
theorem within_any (w : World) (va vb : Value) (la lb : List Sp) (ha : RdS w va la) (hb : RdS w vb lb) (hla : la.length ≤ 1000000) (hlb : lb.length ≤ 1000000) :
    Calls Try.prog 25 #[va, vb] w (WithinPost la lb w) := by
  go_enter Try.func25, Try.ntmps25
  go_wp2_with fail
  refine (merge_any w vb lb hb hlb).mono ?_
  rintro e w1 ⟨v1, B, rfl, own1, cB, covB, b1⟩
  have ha1 : RdS w1 va la := ha.below b1
  go_wp2_with fail
  refine (merge_any w1 va la ha1 hla).mono ?_
  rintro e w2 ⟨v2, A, rfl, own2, cA, covA, b2⟩
  have rB : RdS w2 v1 B := (RdS.of_own own1).below b2
  have rA : RdS w2 v2 A := RdS.of_own own2
  have hall : Below w.heap.size w w2 := b1.trans (b2.mono b1.size)
  have hfin : ∀ (x : Bool) (w' : World), x = withinB A B → Below w2.heap.size w2 w' → WithinPost la lb w (.returned (.bool x)) w' := fun x w' hx h => ⟨A, B, cA, covA, cB, covB, by rw [hx], hall.trans (h.mono hall.size)⟩
  have HF := Lib.hid hfin
  have HA := Lib.hid cA
  have HB := Lib.hid cB
  have RA := Lib.hid rA
  have RB := Lib.hid rB
  obtain ⟨X1, c1, rfl⟩ := rB.slice
  obtain ⟨X2, c2, rfl⟩ := rA.slice
  clear hfin own1 own2 covA covB cA cB ha hb ha1 rA rB hall b1 b2
  go_wp2_with fail
  have hBm : B.length ≤ 9223372036854775807 := by
    rcases RB.out.2 with ⟨h, _⟩ | ⟨_, _, _, _, h1, h2, _⟩
    · omega
    · unfold maxLen at h2; omega
  have hAm : A.length ≤ 9223372036854775807 := by
    rcases RA.out.2 with ⟨h, _⟩ | ⟨_, _, _, _, h1, h2, _⟩
    · omega
    · unfold maxLen at h2; omega
  go_loopw [6, 14] (fun u t wr => ∃ i k : Nat, i ≤ B.length ∧ k ≤ A.length ∧ u = .int .i64 i ∧ t = .int .i64 k ∧ Hid (∀ (j : Nat), j < i → ∀ k', k ≤ k' → ∀ (h : k' < A.length) (h2 : j < B.length), B[j].2 < A[k'].2) ∧ Hid (∀ k' (h : k' < A.length), k' < k → inB B A[k'] = true) ∧ Below w2.heap.size w2 wr) (fun _ t _ => A.length - (intOf t).toNat)
  case atStart => exact ⟨0, 0, Nat.zero_le _, Nat.zero_le _, rfl, rfl, fun j hj => absurd hj (by omega), fun k' _ hk => absurd hk (by omega), Below.refl _ _⟩
  case round =>
    obtain ⟨i, k, hi, hk, rfl, rfl, hrise, hin, hbw⟩ := hrel
    have hsz := hbw.size
    obtain ⟨wo, rfl⟩ : ∃ wo : World, wo = wr := ⟨_, rfl⟩
    by_cases hkl : k < A.length
    · obtain ⟨b2, o2, c2', hv2, _, hcm2, hl2, q2⟩ := RA.out.form (by omega)
      injection hv2 with hX2 _ hc2
      subst hX2; subst hc2
      obtain ⟨d0, d1⟩ := q2 k hkl
      have d0 := (hbw.cell (p := ⟨b2, o2 + k * 2, none⟩) hl2).trans d0
      have d1 := (hbw.cell (p := ⟨b2, o2 + k * 2 + 1, none⟩) hl2).trans d1
      obtain ⟨s, hs⟩ : ∃ s, s = A[k] := ⟨_, rfl⟩
      rw [← hs] at d0 d1
      have HS := Lib.hid hs
      clear hs q2
      obtain ⟨s1, s2⟩ := s
      have g2 : b2 < wo.heap.size := by omega
      go_wp2_with fail
      obtain ⟨W0, hW0⟩ : ∃ W0, W0 = wo.alloc (.cells #[.int .i64 s1, .int .i64 s2] 25) := ⟨_, rfl⟩
      rw [← hW0]
      have k0 : W0.cell? ⟨wo.heap.size, 0, none⟩ = some (.int .i64 s1) := by rw [hW0]; go_simp
      have k1 : W0.cell? ⟨wo.heap.size, 1, none⟩ = some (.int .i64 s2) := by rw [hW0]; go_simp
      have BW0 : Below w2.heap.size w2 W0 := by rw [hW0]; exact hbw.alloc hsz _
      have z0 : wo.heap.size < W0.heap.size := by rw [hW0]; simp
      have hz2 := BW0.size
      have HW0 := Lib.hid hW0
      clear hW0 d0 d1
      go_loopw [6] (fun u wx => ∃ j : Nat, i ≤ j ∧ j ≤ B.length ∧ u = .int .i64 j ∧ Hid (∀ j', j' < j → ∀ (h2 : j' < B.length), B[j'].2 < s2) ∧ Below W0.heap.size W0 wx) (fun u _ => B.length - (intOf u).toNat)
      case atStart => exact ⟨i, Nat.le_refl _, hi, rfl, fun j' hj' h2 => (by have := hrise.out j' hj' k (Nat.le_refl _) hkl h2; rw [← HS.out] at this; exact this), Below.refl _ _⟩
      case round =>
        obtain ⟨j, hij, hjl, rfl, hjr, hbx⟩ := hrel
        have x0 := (hbx.cell (p := ⟨wo.heap.size, 0, none⟩) z0).trans k0
        have x1 := (hbx.cell (p := ⟨wo.heap.size, 1, none⟩) z0).trans k1
        have BX : Below w2.heap.size w2 wr := BW0.trans (hbx.mono hz2)
        by_cases hjb : j < B.length
        · obtain ⟨b1, o1, c1', hv1, _, hcm1, hl1, q1⟩ := RB.out.form (by omega)
          injection hv1 with hX1 _ hc1
          subst hX1; subst hc1
          obtain ⟨e0, e1⟩ := q1 j hjb
          have e0 := (BX.cell (p := ⟨b1, o1 + j * 2, none⟩) hl1).trans e0
          have e1 := (BX.cell (p := ⟨b1, o1 + j * 2 + 1, none⟩) hl1).trans e1
          obtain ⟨t, ht⟩ : ∃ t, t = B[j] := ⟨_, rfl⟩
          rw [← ht] at e0 e1
          have HT := Lib.hid ht
          clear ht q1
          obtain ⟨t1, t2⟩ := t
          have y1 : decide ((j : Int) < (B.length : Int)) = true := decide_eq_true (by omega)
          have y3 : ((j : Int) == (B.length : Int)) = false := by simp; omega
          by_cases ht2 : t2 < s2
          · have y2 : decide (t2 < s2) = true := decide_eq_true ht2
            go_wp2_with fail
            go_quiet (fail)
            go_wp2_with fail
            go_roundw
            case rel =>
              refine ⟨j + 1, by omega, by omega, by go_num, ?_, below_drewN hbx _⟩
              intro j' hj' h2
              rcases Nat.lt_or_ge j' j with h | h
              · exact hjr.out j' h h2
              · have : j' = j := by omega
                subst this
                rw [← HT.out]; exact ht2
            case measure => simp [intOf]; omega
          · have y2 : decide (t2 < s2) = false := decide_eq_false ht2
            by_cases hs1 : s1 < t1
            · have y4 : decide (s1 < t1) = true := decide_eq_true hs1
              have hno : false = withinB A B := by
                unfold withinB
                refine (List.all_eq_false.2 ⟨A[k], List.getElem_mem hkl, ?_⟩).symm
                rw [← HS.out, inB_no B HB.out (s1, s2) j (fun j' h' hj' => hjr.out j' hj' h') (.inr ⟨hjb, by rw [← HT.out]; exact hs1⟩)]
                simp
              have HNO := Lib.hid hno
              clear hno
              go_wp2_with fail
              go_quiet (fail)
              go_wp2_with fail
              go_quiet (fail)
              go_wp2_with fail
              go_ret
              exact HF.out _ _ HNO.out (below_drewN (below_drewN BX _) _)
            · have y4 : decide (s1 < t1) = false := decide_eq_false hs1
              go_wp2_with fail
              go_quiet (fail)
              go_wp2_with fail
              go_quiet (fail)
              go_wp2_with fail
              go_roundw
              case rel =>
                refine ⟨j, k + 1, hjl, by omega, rfl, by go_num, ?_, ?_, below_drewN BX _⟩
                · intro j' hj' k' hk' h h2
                  have h3 := hjr.out j' hj' h2
                  have h4 := canon_rise A HA.out k k' h (by omega)
                  rw [← HS.out] at h4
                  simp only at h4
                  omega
                · intro k' h hk'
                  rcases Nat.lt_or_ge k' k with h1 | h1
                  · exact hin.out k' h h1
                  · have : k' = k := by omega
                    subst this
                    refine inB_yes B _ j hjb ?_ ?_
                    · rw [← HT.out, ← HS.out]; simp only; omega
                    · rw [← HT.out, ← HS.out]; simp only; omega
              case measure => simp [intOf]; omega
        · have hje : j = B.length := by omega
          have y1 : decide ((j : Int) < (B.length : Int)) = false := decide_eq_false (by omega)
          have y3 : ((j : Int) == (B.length : Int)) = true := by simp; omega
          have hno : false = withinB A B := by
            unfold withinB
            refine (List.all_eq_false.2 ⟨A[k], List.getElem_mem hkl, ?_⟩).symm
            rw [← HS.out, inB_no B HB.out (s1, s2) j (fun j' h' hj' => hjr.out j' hj' h') (.inl hje)]
            simp
          have HNO := Lib.hid hno
          clear hno
          clear hje
          go_wp2_with fail
          go_quiet (fail)
          go_wp2_with fail
          go_quiet (fail)
          go_wp2_with fail
          go_ret
          exact HF.out _ _ HNO.out (below_drewN (below_drewN BX _) _)
    · have hke : k = A.length := by omega
      subst hke
      have hw : true = withinB A B := by
        unfold withinB
        refine (List.all_eq_true.2 ?_).symm
        intro x hx
        obtain ⟨j, hj, rfl⟩ := List.getElem_of_mem hx
        exact hin.out j hj hj
      have HWW := Lib.hid hw
      clear hw
      go_wp2_with fail
      go_ret
      exact HF.out _ _ HWW.out hbw
end Go.Proofs.Ytlifkfihpmkffaa
