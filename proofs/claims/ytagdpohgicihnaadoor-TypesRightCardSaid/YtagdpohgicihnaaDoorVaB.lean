/- The answer's Ints. -/
import Derived.Test.YtagdpohgicihnaaDoorVaA
namespace Go.Proofs.YtagdpohgicihnaaDoor
open Go.RowKit Go.Shelf

theorem eq_of_takes (a b : List Int) (h : a.length = b.length) (j : Nat) (hj : j < a.length) (hne : a[j] ≠ b[j]) : (a == b) = false := by
  refine beq_eq_false_iff_ne.2 fun e => hne ?_
  subst e
  rfl
set_option maxHeartbeats 1000000 in
set_option maxRecDepth 100000 in
theorem rints_any (a b : List Int) (va vb : Value) (w : World) (hA : Rd w 1 va a.length (ints a)) (hB : Rd w 1 vb b.length (ints b)) (la : a.length ≤ 1000000) (lb : b.length ≤ 1000000) :
    Calls Tryd.prog 19 #[va, vb] w fun e w' => e = .returned (.bool (a == b)) ∧ Below w.heap.size w w' := by
  obtain ⟨A, c, rfl⟩ := hA.form
  obtain ⟨A', c', rfl⟩ := hB.form
  obtain ⟨q, hq⟩ : ∃ q, a.length = q := ⟨_, rfl⟩
  obtain ⟨q', hq'⟩ : ∃ q', b.length = q' := ⟨_, rfl⟩
  rw [hq] at la ⊢
  rw [hq'] at lb ⊢
  have HA := Lib.hid hA
  have HB := Lib.hid hB
  have HQ := Lib.hid hq
  have HQ' := Lib.hid hq'
  clear hA hB hq hq'
  by_cases hl : q = q'
  · subst hl
    go_enter Tryd.func19, Tryd.ntmps19
    go_wp2_with fail
    go_loopw [5] (fun t wr => ∃ j : Nat, j ≤ q ∧ t = .int .i64 j ∧ a.take j = b.take j ∧ Below w.heap.size w wr) (fun t _ => q - (intOf t).toNat)
    case atStart => exact ⟨0, Nat.zero_le _, rfl, by simp, Below.refl _ _⟩
    case round =>
      obtain ⟨j, hj, rfl, hja, hb⟩ := hrel
      have HBW := Lib.hid hb
      have HJA := Lib.hid hja
      clear hja hb
      by_cases hjl : j < q
      · have hjA : j < a.length := by rw [HQ.out]; exact hjl
        have hjB : j < b.length := by rw [HQ'.out]; exact hjl
        obtain ⟨b1, o1, cap1, hv1, _, _, hlt1, hc1⟩ := HA.out.2.resolve_left (by rintro ⟨h, _⟩; omega)
        obtain ⟨b2, o2, cap2, hv2, _, _, hlt2, hc2⟩ := HB.out.2.resolve_left (by rintro ⟨h, _⟩; omega)
        injection hv1 with hA1 _ hcc1
        injection hv2 with hA2 _ hcc2
        subst hA1; subst hcc1; subst hA2; subst hcc2
        obtain ⟨x, hx⟩ : ∃ x, a[j] = x := ⟨_, rfl⟩
        obtain ⟨y, hy⟩ : ∃ y, b[j] = y := ⟨_, rfl⟩
        have c1 : wr.cell? ⟨b1, o1 + j, none⟩ = some (.int .i64 x) := (HBW.out.cell (p := ⟨b1, o1 + j, none⟩) hlt1).trans (hc1 j _ (by rw [ints, List.getElem?_map, List.getElem?_eq_getElem hjA, hx]; rfl))
        have c2 : wr.cell? ⟨b2, o2 + j, none⟩ = some (.int .i64 y) := (HBW.out.cell (p := ⟨b2, o2 + j, none⟩) hlt2).trans (hc2 j _ (by rw [ints, List.getElem?_map, List.getElem?_eq_getElem hjB, hy]; rfl))
        by_cases hxy : x = y
        · have htk : a.take (j + 1) = b.take (j + 1) := by
            rw [← List.take_append_getElem hjA, ← List.take_append_getElem hjB, HJA.out, hx, hy, hxy]
          have HTK := Lib.hid htk
          have f1 : (x != y) = false := by simp [hxy]
          clear htk hx hy hc1 hc2 hxy
          go_wp2_with fail
          go_quiet (fail)
          go_wp2_with fail
          go_roundw
          case rel => exact ⟨j + 1, by omega, by go_num, HTK.out, below_drewN HBW.out _⟩
          case measure => simp [intOf]; omega
        · have f1 : (x != y) = true := bne_iff_ne.2 hxy
          have HE := Lib.hid (eq_of_takes a b (HQ.out.trans HQ'.out.symm) j hjA (by rw [hx, hy]; exact hxy))
          clear hx hy hc1 hc2 hxy
          go_wp2_with fail
          go_quiet (fail)
          go_wp2_with fail
          go_ret
          exact ⟨ret_bool HE.out.symm, below_drewN HBW.out _⟩
      · obtain rfl : j = q := by omega
        have hE : (a == b) = true := by
          have h := HJA.out
          have h1 := HQ.out
          have h2 := HQ'.out
          rw [List.take_of_length_le (by omega), List.take_of_length_le (by omega)] at h
          simp [h]
        have HE := Lib.hid hE
        clear hE
        go_wp2_with fail
        go_ret
        exact ⟨ret_bool HE.out.symm, HBW.out⟩
  · have f1 : ((q : Int) != (q' : Int)) = true := bne_iff_ne.2 (by omega)
    have hE : (a == b) = false := beq_eq_false_iff_ne.2 fun e => hl (by rw [← HQ.out, ← HQ'.out, e])
    have HE := Lib.hid hE
    clear hE hl
    go_enter Tryd.func19, Tryd.ntmps19
    go_wp2_with fail
    go_ret
    exact ⟨ret_bool HE.out.symm, Below.refl _ _⟩
end Go.Proofs.YtagdpohgicihnaaDoor
