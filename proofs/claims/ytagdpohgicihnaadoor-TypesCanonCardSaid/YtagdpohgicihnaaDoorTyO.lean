/- The guard of the laws: is there room for a type? -/
import Derived.Test.YtagdpohgicihnaaDoorTyK
import Derived.Deep.RegionWith
namespace Go.Proofs.YtagdpohgicihnaaDoor
open Go.RowKit

/-- What room gives. -/
def RoomIs (n deep : Nat) (f : Fo) (r : Int) : Prop :=
  -1 ≤ r ∧ r ≤ n ∧ (0 ≤ r → 1 + (f.size : Int) + r = n ∧ 1 + f.depth ≤ deep) ∧ (1 + f.size ≤ n → 1 + f.depth ≤ deep → r = (n : Int) - (1 + f.size))
theorem RoomIs.zero (n : Nat) (f : Fo) : RoomIs n 0 f (-1) := ⟨by omega, by omega, by omega, by omega⟩
theorem RoomIs.none (deep : Nat) (f : Fo) : RoomIs 0 deep f (-1) := ⟨by omega, by omega, by omega, by omega⟩
set_option maxHeartbeats 1000000 in
set_option maxRecDepth 100000 in
theorem room_any (deep : Nat) : ∀ (f : Fo) (k n0 : Int) (v : Value) (n : Nat) (w : World), deep ≤ 40 → n ≤ 300 → TyV w.heap.size w f v →
    Calls Tryd.prog 36 #[tyVal k n0 v, .int .i64 n, .int .i64 deep] w fun e w' => ∃ r, e = .returned (.int .i64 r) ∧ Below w.heap.size w w' ∧ RoomIs n deep f r := by
  induction deep with
  | zero =>
    intro f k n0 v n w hd hn h
    obtain ⟨A, c, rfl⟩ := h.slice
    clear h
    unfold tyVal
    go_enter Tryd.func36, Tryd.ntmps36
    go_wp2_with fail
    go_ret
    exact ⟨_, rfl, (Below.refl _ _).alloc (Nat.le_refl _) _, RoomIs.zero n f⟩
  | succ deep ih =>
    intro f k n0 v n w hd hn h
    obtain ⟨A, c, rfl⟩ := h.slice
    have H := Lib.hid h
    have IH := Lib.hid ih
    have hml : f.len ≤ maxLen := by
      rcases Nat.eq_zero_or_pos f.len with h0 | h0
      · omega
      · obtain ⟨_, _, cap, _, h1, h2, _⟩ := h.form h0
        exact Nat.le_trans h1 h2
    replace hml : f.len ≤ 9223372036854775807 := by unfold maxLen at hml; omega
    clear h ih
    rw [show (((deep + 1 : Nat)) : Int) = (deep : Int) + 1 from by omega]
    unfold tyVal
    go_enter Tryd.func36, Tryd.ntmps36
    have HB0 := Lib.hid (show ∀ (cs : Array Value) (t : TypeId), Below w.heap.size w (w.alloc (Obj.cells cs t)) from fun cs t => (Below.refl _ w).alloc (Nat.le_refl _) _)
    have f1 : ((deep : Int) + 1 == 0) = false := beq_eq_false_iff_ne.2 (by omega)
    go_wp2_with fail
    go_loopw [1, 7] (fun t1 t7 wr => ∃ (j : Nat) (r : Int), j ≤ f.len ∧ t7 = .int .i64 j ∧ t1 = .int .i64 r ∧ RoomIs n (deep + 1) (f.take j) r ∧ wr.cell? ⟨w.heap.size, 2, none⟩ = some (.slice A f.len c) ∧ Below w.heap.size w wr ∧ w.heap.size + 1 ≤ wr.heap.size) (fun _ t _ => f.len - (intOf t).toNat)
    case atStart =>
      refine ⟨0, (n : Int) - 1, Nat.zero_le _, rfl, by go_num, ?_, by go_simp, HB0.out _ _, by simp⟩
      unfold RoomIs
      simp only [Fo.take_zero, Fo.size, Fo.depth]
      omega
    case round =>
      obtain ⟨j, r, hj, rfl, rfl, hr, e2, hb, hz⟩ := hrel
      have HB := Lib.hid hb
      have HR := Lib.hid hr
      have hr0 : -1 ≤ r ∧ r ≤ n := ⟨hr.1, hr.2.1⟩
      clear hb hr
      by_cases hjl : j < f.len
      · by_cases hr1 : 0 ≤ r
        · obtain ⟨rn, rfl⟩ := Int.eq_ofNat_of_zero_le hr1
          obtain ⟨b, off, cap, hv, _, _, hlt, hC⟩ := H.out.form (by omega)
          injection hv with hA _ hcc
          subst hA; subst hcc
          obtain ⟨d0, d1, d2, hch⟩ := tyC_at hC j hjl
          have c0 := (HB.out.cell (p := ⟨b, off + j * 3, none⟩) hlt).trans d0
          have c1 := (HB.out.cell (p := ⟨b, off + j * 3 + 1, none⟩) hlt).trans d1
          have c2 := (HB.out.cell (p := ⟨b, off + j * 3 + 2, none⟩) hlt).trans d2
          have hch' : TyV wr.heap.size wr (f.at_ j).2.2.2 (slv (f.at_ j).2.2.1) := hch.keep HB.out.size fun b off hb' => HB.out.cell (p := ⟨b, off, none⟩) hb'
          have HST := Lib.hid (f.size_take_step j hjl)
          have HDT := Lib.hid (f.depth_take_step j hjl)
          have hrec := IH.out (f.at_ j).2.2.2 (f.at_ j).1 (f.at_ j).2.1 (slv (f.at_ j).2.2.1) rn wr (by omega) (by omega) hch'
          clear d0 d1 d2 hC hch hch'
          unfold tyVal at hrec
          generalize f.at_ j = p at *
          obtain ⟨pk, pn, pv, pf⟩ := p
          dsimp only [slv] at hrec c0 c1 c2
          have HREC := Lib.hid hrec
          clear hrec
          have f2 : decide ((0 : Int) ≤ rn) = true := decide_eq_true hr1
          go_wp2_with fail
          refine HREC.out.mono ?_
          rintro e w2 ⟨r2, rfl, hb3, hr2⟩
          have e2' := (hb3.cell (p := ⟨w.heap.size, 2, none⟩) (by show w.heap.size < wr.heap.size; omega)).trans e2
          have HB3 := Lib.hid hb3
          have HR2 := Lib.hid hr2
          clear hb3 hr2
          go_wp2_with fail
          go_roundw
          case rel =>
            refine ⟨j + 1, r2, by omega, by go_num, rfl, ?_, e2', HB.out.trans (HB3.out.mono (by omega)), Nat.le_trans hz HB3.out.size⟩
            have h1 := HR.out
            have h2 := HR2.out
            have h3 := HST.out
            have h4 := HDT.out
            unfold RoomIs at h1 h2 ⊢
            omega
          case measure => simp [intOf]; omega
        · have f2 : decide ((0 : Int) ≤ r) = false := decide_eq_false hr1
          have HTL := Lib.hid (f.size_take_le j)
          have HDL := Lib.hid (f.depth_take_le j)
          go_wp2_with fail
          go_ret
          refine ⟨_, rfl, HB.out, ?_⟩
          have h1 := HR.out
          have h3 := HTL.out
          have h4 := HDL.out
          unfold RoomIs at h1 ⊢
          omega
      · obtain rfl : j = f.len := by omega
        have HT : Hid (f.take f.len = f) := Lib.hid f.take_len
        go_wp2_with fail
        go_ret
        refine ⟨_, rfl, HB.out, ?_⟩
        have h1 := HR.out
        rwa [HT.out] at h1
set_option maxHeartbeats 1000000 in
/-- Is there more than is asked of? -/
theorem great_any (f : Fo) (k n0 : Int) (v : Value) (w : World) (h : TyV w.heap.size w f v) :
    Calls Tryd.prog 10 #[tyVal k n0 v] w fun e w' => e = .returned (.bool (!(decide (1 + f.size ≤ 300) && decide (1 + f.depth ≤ 40)))) ∧ Below w.heap.size w w' := by
  obtain ⟨A, c, rfl⟩ := h.slice
  obtain ⟨w1, hw1⟩ : ∃ w1, w.alloc (Obj.cells #[.int .i64 k, .int .i64 n0, .slice A f.len c] 24) = w1 := ⟨_, rfl⟩
  have hb1 : Below w.heap.size w w1 := by rw [← hw1]; exact (Below.refl _ _).alloc (Nat.le_refl _) _
  have hs1 := hb1.size
  have hc := room_any 40 f k n0 (.slice A f.len c) 300 w1 (by omega) (by omega) (h.keep hs1 fun b off hb' => hb1.cell (p := ⟨b, off, none⟩) hb')
  rw [← hw1] at hc
  have HC := Lib.hid hc
  have HB1 := Lib.hid hb1
  have HW1 := Lib.hid hw1
  clear h hc hs1 hb1 hw1
  unfold tyVal at HC ⊢
  go_enter Tryd.func10, Tryd.ntmps10
  go_wp2_with fail
  refine HC.out.mono ?_
  rintro e w' ⟨r, rfl, hb, hr⟩
  have hd : decide (r < 0) = !(decide (1 + f.size ≤ 300) && decide (1 + f.depth ≤ 40)) := by
    unfold RoomIs at hr
    by_cases h1 : r < 0
    · have : ¬ (1 + f.size ≤ 300 ∧ 1 + f.depth ≤ 40) := by omega
      rw [decide_eq_true h1]
      simp only [← Bool.decide_and, decide_eq_false this]
      rfl
    · have : 1 + f.size ≤ 300 ∧ 1 + f.depth ≤ 40 := by omega
      rw [decide_eq_false h1]
      simp only [← Bool.decide_and, decide_eq_true this]
      rfl
  have HD := Lib.hid hd
  rw [HW1.out] at hb
  have HB := Lib.hid (show Below w.heap.size w w' from HB1.out.trans (hb.mono HB1.out.size))
  clear hd hr hb
  go_wp2_with fail
  go_ret
  exact ⟨ret_bool HD.out, HB.out⟩
end Go.Proofs.YtagdpohgicihnaaDoor
