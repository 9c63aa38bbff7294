/- Texts of one proof, one behind the other. -/
import Derived.Test.YtifdbmdfkhnojaaDoorMgSubstAlike2
import Derived.Test.YtifdbmdfkhnojaaDoorMgSubstAlike1
/- The answer's In. -/
namespace Go.Proofs.YtifdbmdfkhnojaaDoor
open Go.RowKit

set_option maxHeartbeats 1000000 in
theorem rin_any (L : List Int) (vl : Value) (v : Int) (w : World) (hR : Rd w 1 vl L.length (L.map (Value.int .i64))) (hl : L.length ≤ 1000000) :
    Calls Tryd.prog 48 #[vl, .int .i64 v] w fun e w' => e = .returned (.bool (decide (v ∈ L))) ∧ Below w.heap.size w w' := by
  obtain ⟨A, c, rfl⟩ : ∃ A c, vl = .slice A L.length c := by
    rcases hR.2 with ⟨h0, A, c, h⟩ | ⟨b, off, cap, h, _⟩
    · exact ⟨A, c, by rw [h, h0]⟩
    · exact ⟨_, cap, h⟩
  obtain ⟨q, hq⟩ : ∃ q, L.length = q := ⟨_, rfl⟩
  have H := Lib.hid hR
  have HQ := Lib.hid hq
  rw [hq] at hl ⊢
  clear hR hq
  go_enter Tryd.func48, Tryd.ntmps48
  go_wp2_with fail
  go_loopw [5] (fun t wr => ∃ j : Nat, j ≤ q ∧ t = .int .i64 j ∧ (L.take j).contains v = false ∧ Below w.heap.size w wr) (fun t _ => q - (intOf t).toNat)
  case atStart => exact ⟨0, Nat.zero_le _, rfl, by simp, Below.refl _ _⟩
  case round =>
    obtain ⟨j, hj, rfl, hja, hb⟩ := hrel
    have HB := Lib.hid hb
    have HJA := Lib.hid hja
    clear hja hb
    by_cases hjl : j < q
    · have hjL : j < L.length := by rw [HQ.out]; exact hjl
      obtain ⟨b, off, cap, hv, _, _, hlt, hc⟩ := H.out.2.resolve_left (by rintro ⟨h, _⟩; omega)
      injection hv with hA _ hcc
      subst hA; subst hcc
      obtain ⟨x, hx⟩ : ∃ x, L[j] = x := ⟨_, rfl⟩
      have c0 : wr.cell? ⟨b, off + j, none⟩ = some (.int .i64 x) := (HB.out.cell (p := ⟨b, off + j, none⟩) hlt).trans (hc j _ (by rw [List.getElem?_map, List.getElem?_eq_getElem hjL, hx]; rfl))
      have htk : L.take (j + 1) = L.take j ++ [x] := by rw [← hx]; exact (List.take_append_getElem hjL).symm
      by_cases hxv : x = v
      · have f1 : (x == v) = true := by simp [hxv]
        have hmem : decide (v ∈ L) = true := by
          refine decide_eq_true ?_
          rw [← hxv, ← hx]
          exact List.getElem_mem hjL
        have HM := Lib.hid hmem
        clear htk hx hc hxv hmem
        go_wp2_with fail
        go_ret
        exact ⟨ret_bool HM.out.symm, HB.out⟩
      · have f1 : (x == v) = false := beq_eq_false_iff_ne.2 hxv
        have hnm : (L.take (j + 1)).contains v = false := by
          rw [htk]
          have h1 := HJA.out
          simp only [List.contains_eq_mem, decide_eq_false_iff_not, List.mem_append, List.mem_singleton, not_or] at h1 ⊢
          exact ⟨h1, fun e => hxv e.symm⟩
        have HM := Lib.hid hnm
        clear htk hx hc hxv hnm
        go_wp2_with fail
        go_roundw
        case rel => exact ⟨j + 1, by omega, by go_num, HM.out, HB.out⟩
        case measure => simp [intOf]; omega
    · obtain rfl : j = q := by omega
      have hT : decide (v ∈ L) = false := by
        have := HJA.out
        rw [← HQ.out, List.take_length] at this
        simpa using this
      have HT := Lib.hid hT
      clear hT
      go_wp2_with fail
      go_ret
      exact ⟨ret_bool HT.out.symm, HB.out⟩
end Go.Proofs.YtifdbmdfkhnojaaDoor
