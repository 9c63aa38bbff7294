/- Texts of one proof, one behind the other. -/
import Derived.Test.YtifdbmdfkhnojaaDoorMgSubstApplies5
import Derived.Deep.RegionWith
import Derived.Test.YtifdbmdfkhnojaaDoorMgSubstApplies22
/- The guard of the laws: is there room for a type? -/
namespace Go.Proofs.YtifdbmdfkhnojaaDoor
open Go.RowKit

/-- What room gives. -/
def RoomIs (n deep : Nat) (f : Fo) (r : Int) : Prop :=
  -1 ≤ r ∧ r ≤ n ∧ (0 ≤ r → 1 + (f.size : Int) + r = n ∧ 1 + f.depth ≤ deep) ∧ (1 + f.size ≤ n → 1 + f.depth ≤ deep → r = (n : Int) - (1 + f.size))
theorem RoomIs.zero (n : Nat) (f : Fo) : RoomIs n 0 f (-1) := ⟨by omega, by omega, by omega, by omega⟩
theorem RoomIs.none (deep : Nat) (f : Fo) : RoomIs 0 deep f (-1) := ⟨by omega, by omega, by omega, by omega⟩
set_option maxHeartbeats 1000000 in
set_option maxRecDepth 100000 in
theorem room_any (deep : Nat) : ∀ (f : Fo) (k n0 : Int) (v : Value) (n : Nat) (w : World), deep ≤ 40 → n ≤ 300 → TyV w.heap.size w f v →
    Calls Tryd.prog 30 #[tyVal k n0 v, .int .i64 n, .int .i64 deep] w fun e w' => ∃ r, e = .returned (.int .i64 r) ∧ Below w.heap.size w w' ∧ RoomIs n deep f r := by
  induction deep with
  | zero =>
    intro f k n0 v n w hd hn h
    obtain ⟨A, c, rfl⟩ := h.slice
    clear h
    unfold tyVal
    go_enter Tryd.func30, Tryd.ntmps30
    go_wp2_with fail
    go_ret
    exact ⟨_, rfl, (Below.refl _ _).alloc (Nat.le_refl _) _, RoomIs.zero n f⟩
  | succ deep ih =>
    intro f k n0 v n w hd hn h
    obtain ⟨A, c, rfl⟩ := h.slice
    have H := Lib.hid h
    have IH := Lib.hid ih
    have hml : f.len ≤ maxLen := by
      rcases Nat.eq_zero_or_pos f.len with h0 | h0
      · omega
      · obtain ⟨_, _, cap, _, h1, h2, _⟩ := h.form h0
        exact Nat.le_trans h1 h2
    replace hml : f.len ≤ 9223372036854775807 := by unfold maxLen at hml; omega
    clear h ih
    rw [show (((deep + 1 : Nat)) : Int) = (deep : Int) + 1 from by omega]
    unfold tyVal
    go_enter Tryd.func30, Tryd.ntmps30
    have HB0 := Lib.hid (show ∀ (cs : Array Value) (t : TypeId), Below w.heap.size w (w.alloc (Obj.cells cs t)) from fun cs t => (Below.refl _ w).alloc (Nat.le_refl _) _)
    have f1 : ((deep : Int) + 1 == 0) = false := beq_eq_false_iff_ne.2 (by omega)
    go_wp2_with fail
    go_loopw [1, 7] (fun t1 t7 wr => ∃ (j : Nat) (r : Int), j ≤ f.len ∧ t7 = .int .i64 j ∧ t1 = .int .i64 r ∧ RoomIs n (deep + 1) (f.take j) r ∧ wr.cell? ⟨w.heap.size, 2, none⟩ = some (.slice A f.len c) ∧ Below w.heap.size w wr ∧ w.heap.size + 1 ≤ wr.heap.size) (fun _ t _ => f.len - (intOf t).toNat)
    case atStart =>
      refine ⟨0, (n : Int) - 1, Nat.zero_le _, rfl, by go_num, ?_, by go_simp, HB0.out _ _, by simp⟩
      unfold RoomIs
      simp only [Fo.take_zero, Fo.size, Fo.depth]
      omega
    case round =>
      obtain ⟨j, r, hj, rfl, rfl, hr, e2, hb, hz⟩ := hrel
      have HB := Lib.hid hb
      have HR := Lib.hid hr
      have hr0 : -1 ≤ r ∧ r ≤ n := ⟨hr.1, hr.2.1⟩
      clear hb hr
      by_cases hjl : j < f.len
      · by_cases hr1 : 0 ≤ r
        · obtain ⟨rn, rfl⟩ := Int.eq_ofNat_of_zero_le hr1
          obtain ⟨b, off, cap, hv, _, _, hlt, hC⟩ := H.out.form (by omega)
          injection hv with hA _ hcc
          subst hA; subst hcc
          obtain ⟨d0, d1, d2, hch⟩ := tyC_at hC j hjl
          have c0 := (HB.out.cell (p := ⟨b, off + j * 3, none⟩) hlt).trans d0
          have c1 := (HB.out.cell (p := ⟨b, off + j * 3 + 1, none⟩) hlt).trans d1
          have c2 := (HB.out.cell (p := ⟨b, off + j * 3 + 2, none⟩) hlt).trans d2
          have hch' : TyV wr.heap.size wr (f.at_ j).2.2.2 (slv (f.at_ j).2.2.1) := hch.keep HB.out.size fun b off hb' => HB.out.cell (p := ⟨b, off, none⟩) hb'
          have HST := Lib.hid (f.size_take_step j hjl)
          have HDT := Lib.hid (f.depth_take_step j hjl)
          have hrec := IH.out (f.at_ j).2.2.2 (f.at_ j).1 (f.at_ j).2.1 (slv (f.at_ j).2.2.1) rn wr (by omega) (by omega) hch'
          clear d0 d1 d2 hC hch hch'
          unfold tyVal at hrec
          generalize f.at_ j = p at *
          obtain ⟨pk, pn, pv, pf⟩ := p
          dsimp only [slv] at hrec c0 c1 c2
          have HREC := Lib.hid hrec
          clear hrec
          have f2 : decide ((0 : Int) ≤ rn) = true := decide_eq_true hr1
          go_wp2_with fail
          refine HREC.out.mono ?_
          rintro e w2 ⟨r2, rfl, hb3, hr2⟩
          have e2' := (hb3.cell (p := ⟨w.heap.size, 2, none⟩) (by show w.heap.size < wr.heap.size; omega)).trans e2
          have HB3 := Lib.hid hb3
          have HR2 := Lib.hid hr2
          clear hb3 hr2
          go_wp2_with fail
          go_roundw
          case rel =>
            refine ⟨j + 1, r2, by omega, by go_num, rfl, ?_, e2', HB.out.trans (HB3.out.mono (by omega)), Nat.le_trans hz HB3.out.size⟩
            have h1 := HR.out
            have h2 := HR2.out
            have h3 := HST.out
            have h4 := HDT.out
            unfold RoomIs at h1 h2 ⊢
            omega
          case measure => simp [intOf]; omega
        · have f2 : decide ((0 : Int) ≤ r) = false := decide_eq_false hr1
          have HTL := Lib.hid (f.size_take_le j)
          have HDL := Lib.hid (f.depth_take_le j)
          go_wp2_with fail
          go_ret
          refine ⟨_, rfl, HB.out, ?_⟩
          have h1 := HR.out
          have h3 := HTL.out
          have h4 := HDL.out
          unfold RoomIs at h1 ⊢
          omega
      · obtain rfl : j = f.len := by omega
        have HT : Hid (f.take f.len = f) := Lib.hid f.take_len
        go_wp2_with fail
        go_ret
        refine ⟨_, rfl, HB.out, ?_⟩
        have h1 := HR.out
        rwa [HT.out] at h1
set_option maxHeartbeats 1000000 in
/-- Is there more than is asked of? -/
theorem great_any (f : Fo) (k n0 : Int) (v : Value) (w : World) (h : TyV w.heap.size w f v) :
    Calls Tryd.prog 9 #[tyVal k n0 v] w fun e w' => e = .returned (.bool (!(decide (1 + f.size ≤ 300) && decide (1 + f.depth ≤ 40)))) ∧ Below w.heap.size w w' := by
  obtain ⟨A, c, rfl⟩ := h.slice
  obtain ⟨w1, hw1⟩ : ∃ w1, w.alloc (Obj.cells #[.int .i64 k, .int .i64 n0, .slice A f.len c] 25) = w1 := ⟨_, rfl⟩
  have hb1 : Below w.heap.size w w1 := by rw [← hw1]; exact (Below.refl _ _).alloc (Nat.le_refl _) _
  have hs1 := hb1.size
  have hc := room_any 40 f k n0 (.slice A f.len c) 300 w1 (by omega) (by omega) (h.keep hs1 fun b off hb' => hb1.cell (p := ⟨b, off, none⟩) hb')
  rw [← hw1] at hc
  have HC := Lib.hid hc
  have HB1 := Lib.hid hb1
  have HW1 := Lib.hid hw1
  clear h hc hs1 hb1 hw1
  unfold tyVal at HC ⊢
  go_enter Tryd.func9, Tryd.ntmps9
  go_wp2_with fail
  refine HC.out.mono ?_
  rintro e w' ⟨r, rfl, hb, hr⟩
  have hd : decide (r < 0) = !(decide (1 + f.size ≤ 300) && decide (1 + f.depth ≤ 40)) := by
    unfold RoomIs at hr
    by_cases h1 : r < 0
    · have : ¬ (1 + f.size ≤ 300 ∧ 1 + f.depth ≤ 40) := by omega
      rw [decide_eq_true h1]
      simp only [← Bool.decide_and, decide_eq_false this]
      rfl
    · have : 1 + f.size ≤ 300 ∧ 1 + f.depth ≤ 40 := by omega
      rw [decide_eq_false h1]
      simp only [← Bool.decide_and, decide_eq_true this]
      rfl
  have HD := Lib.hid hd
  rw [HW1.out] at hb
  have HB := Lib.hid (show Below w.heap.size w w' from HB1.out.trans (hb.mono HB1.out.size))
  clear hd hr hb
  go_wp2_with fail
  go_ret
  exact ⟨ret_bool HD.out, HB.out⟩
end Go.Proofs.YtifdbmdfkhnojaaDoor
/- What is too great; whether binds are right. -/
namespace Go.Proofs.YtifdbmdfkhnojaaDoor
open Go.RowKit Go.Shelf Go.Maps Go.WideShapes
/-- All that is in the binds' types. -/
def tsum (l : List Bnd) : Nat := (l.map fun b => 1 + b.2.2.2.2.size).sum
theorem tsum_app (a b : List Bnd) : tsum (a ++ b) = tsum a + tsum b := by simp [tsum]
theorem tsum_mem {l : List Bnd} {b : Bnd} (h : b ∈ l) : 1 + b.2.2.2.2.size ≤ tsum l := by
  induction l with
  | nil => cases h
  | cons c l ih =>
    simp only [tsum, List.map_cons, List.sum_cons] at ih ⊢
    rcases List.mem_cons.1 h with rfl | h
    · omega
    · have := ih h; omega
theorem BdV.cap {B : Nat} {w : World} {l : List Bnd} {v : Value} (h : BdV B w l v) : l.length ≤ 9223372036854775807 := by
  obtain ⟨A, c, _, h1, _⟩ := h
  rcases Nat.eq_zero_or_pos l.length with h0 | h0
  · omega
  · obtain ⟨_, _, _, _, h2, h3, _⟩ := h1 h0
    unfold maxLen at h3
    omega
def Small (l : List Bnd) : Prop := ∀ b ∈ l, 1 + b.2.2.2.2.size ≤ 300 ∧ 1 + b.2.2.2.2.depth ≤ 40
def big (b : Bnd) : Bool := !(decide (1 + b.2.2.2.2.size ≤ 300) && decide (1 + b.2.2.2.2.depth ≤ 40))
/-- Is it too great? -/
def greatV (l : List Bnd) : Bool := (l.take 30).any big || decide (24 < l.length) || decide (400 < tsum l)
theorem greatV_false {l : List Bnd} (h : greatV l = false) : l.length ≤ 24 ∧ Small l ∧ tsum l ≤ 400 := by
  simp only [greatV, Bool.or_eq_false_iff, decide_eq_false_iff_not] at h
  obtain ⟨⟨h1, h2⟩, h3⟩ := h
  refine ⟨by omega, fun b hb => ?_, by omega⟩
  rw [List.take_of_length_le (by omega), List.any_eq_false] at h1
  have := h1 b hb
  simp only [big, Bool.not_eq_true', Bool.not_eq_false, Bool.and_eq_true, decide_eq_true_eq] at this
  exact this
theorem greatV_big {l : List Bnd} {j : Nat} (hj : j < l.length) (h3 : j < 30) (h : big l[j] = true) : greatV l = true := by
  have : (l.take 30).any big = true := by
    rw [List.any_eq_true]
    exact ⟨l[j], by
      rw [List.mem_take_iff_getElem]
      exact ⟨j, by omega, rfl⟩, h⟩
  simp [greatV, this]
theorem greatV_small {l : List Bnd} (h : Small (l.take 30)) : greatV l = (decide (24 < l.length) || decide (400 < tsum l)) := by
  have : (l.take 30).any big = false := by
    rw [List.any_eq_false]
    intro b hb
    have := h b hb
    simp [big, this.1, this.2]
  simp [greatV, this]
set_option maxHeartbeats 2000000 in
set_option maxRecDepth 100000 in
theorem great_bind (w : World) (l : List Bnd) (v : Value) (hl : BdV w.heap.size w l v) :
    Calls Tryd.prog 8 #[v] w fun e w' => e = .returned (.bool (greatV l)) ∧ Below w.heap.size w w' := by
  obtain ⟨A, c, rfl⟩ := hl.form
  have hcap := hl.cap
  go_enter Tryd.func8, Tryd.ntmps8
  go_wp2
  go_loopw [3, 4] (fun s3 s4 wr => ∃ j : Nat, s4 = .int .i64 j ∧ s3 = .int .i64 (tsum (l.take j)) ∧ j ≤ l.length ∧ j ≤ 30 ∧ Small (l.take j) ∧ tsum (l.take j) ≤ 300 * j ∧ Below w.heap.size w wr) (fun _ s4 _ => 31 - (intOf s4).toNat)
  case atStart => exact ⟨0, rfl, rfl, Nat.zero_le _, by omega, fun b hb => by simp at hb, by simp [tsum], Below.refl _ _⟩
  case round =>
    obtain ⟨j, rfl, rfl, hj, hj30, hsm, hsum, hb⟩ := hrel
    by_cases hjl : j < l.length
    · by_cases hj3 : j < 30
      · have f1 : decide ((j : Int) < (30 : Int)) = true := by simp; omega
        obtain ⟨b, off, rfl, hlt, c0, c1, c2, c3⟩ := (hl.below hb).at j hjl
        have htk : l.take (j + 1) = l.take j ++ [l[j]] := by rw [List.take_succ_eq_append_getElem hjl]
        have hty : TyV w.heap.size wr l[j].2.2.2.2 (slv l[j].2.2.2.1) := by
          obtain ⟨_, _, _, _, h2⟩ := hl
          exact (h2 _ (List.getElem_mem hjl)).below hb
        obtain ⟨x, hx⟩ : ∃ x, l[j] = x := ⟨_, rfl⟩
        rw [hx] at c0 c1 c2 c3 htk hty
        obtain ⟨x0, x1, x2, ⟨A3, n3, c3'⟩, x4⟩ := x
        dsimp only [slv] at c0 c1 c2 c3 hty
        have hgr := great_any x4 x1 x2 (.slice A3 n3 c3') wr (hty.keep hb.size fun _ _ _ => rfl)
        obtain ⟨N, hN⟩ : ∃ N, tsum (l.take j) = N := ⟨_, rfl⟩
        have htk2 : tsum (l.take (j + 1)) = N + (1 + x4.size) := by rw [htk, tsum_app, hN]; simp [tsum]
        have hsm2 : 1 + x4.size ≤ 300 → 1 + x4.depth ≤ 40 → Small (l.take (j + 1)) := fun h1 h2 b hb => by
          rw [htk] at hb
          rcases List.mem_append.1 hb with hb | hb
          · exact hsm b hb
          · obtain rfl : b = (x0, x1, x2, (A3, n3, c3'), x4) := by simpa using hb
            exact ⟨h1, h2⟩
        rw [hN] at hsum ⊢
        have hbg : ¬ (1 + x4.size ≤ 300 ∧ 1 + x4.depth ≤ 40) → greatV l = true := fun h => greatV_big hjl hj3 (by
          rw [hx]
          simp only [big, Bool.not_eq_true', Bool.and_eq_false_iff, decide_eq_false_iff_not]
          omega)
        have HBG := Lib.hid hbg
        have HGR := Lib.hid hgr
        have HSM := Lib.hid hsm2
        have HTK := Lib.hid htk2
        have HTY := Lib.hid hty
        have HL := Lib.hid hl
        have HX := Lib.hid hx
        clear hbg hgr hsm2 hsm htk htk2 hty hN hl hx
        dsimp only [tyVal] at HGR
        go_wp2_with fail
        refine HGR.out.mono ?_
        rintro e w2 ⟨rfl, hb2⟩
        have hb02 := hb.trans (hb2.mono hb.size)
        by_cases hg : 1 + x4.size ≤ 300 ∧ 1 + x4.depth ≤ 40
        · have f2 : (!(decide (1 + x4.size ≤ 300) && decide (1 + x4.depth ≤ 40))) = false := by simp [hg.1, hg.2]
          have d1 := (hb2.cell (p := ⟨b, off + j * 4 + 1, none⟩) (Nat.lt_of_lt_of_le hlt hb.size)).trans c1
          have d2 := (hb2.cell (p := ⟨b, off + j * 4 + 2, none⟩) (Nat.lt_of_lt_of_le hlt hb.size)).trans c2
          have d3 := (hb2.cell (p := ⟨b, off + j * 4 + 3, none⟩) (Nat.lt_of_lt_of_le hlt hb.size)).trans c3
          have hsz := rsize_any (x4.size + 1) x4 x1 x2 (.slice A3 n3 c3') w2 (by omega) (by omega) (((HTY.out.keep hb.size fun _ _ _ => rfl).below hb2).keep hb2.size fun _ _ _ => rfl)
          dsimp only [tyVal] at hsz
          have HB2 := Lib.hid hb2
          have HB := Lib.hid hb02
          clear hb2 hb02 c0 c1 c2 c3
          rw [f2]
          go_wp2_with fail
          refine hsz.mono ?_
          rintro e w3 ⟨rfl, hb3⟩
          have f3 : IntKind.i64.wrap ((N : Int) + (1 + (x4.size : Int))) = (N : Int) + (1 + (x4.size : Int)) := IntWalk.i64_in _ (by omega)
          clear hsz f2
          go_wp2_with fail
          go_roundw
          case rel =>
            refine ⟨j + 1, by go_num, ?_, by omega, by omega, HSM.out hg.1 hg.2, by rw [HTK.out]; omega, HB.out.trans (hb3.mono HB.out.size)⟩
            rw [HTK.out]; first | (push_cast; rfl) | (congr 1) | go_num
          case measure => simp [intOf]; omega
        · have f2 : (!(decide (1 + x4.size ≤ 300) && decide (1 + x4.depth ≤ 40))) = true := by
            simp only [Bool.not_eq_true', Bool.and_eq_false_iff, decide_eq_false_iff_not]
            omega
          rw [f2]
          go_wp2_with fail
          go_ret
          exact ⟨by rw [HBG.out hg]; rfl, hb02⟩
      · have f1 : decide ((j : Int) < (30 : Int)) = false := by simp; omega
        obtain rfl : j = 30 := by omega
        have f2 : decide ((l.length : Int) > (24 : Int)) = true := by simp; omega
        have hgv : greatV l = true := by rw [greatV_small hsm, decide_eq_true (show 24 < l.length by omega)]; rfl
        have HGV := Lib.hid hgv
        clear hgv hsm
        go_wp2
        go_ret
        exact ⟨by rw [HGV.out]; rfl, hb⟩
    · obtain rfl : j = l.length := by omega
      rw [List.take_length] at *
      have hgv := greatV_small (fun b hb => hsm b (List.mem_of_mem_take hb))
      obtain ⟨N, hN⟩ : ∃ N, tsum l = N := ⟨_, rfl⟩
      rw [hN] at hsum hgv ⊢
      have HGV := Lib.hid hgv
      have HB := Lib.hid hb
      clear hsm hN hb hl hgv
      by_cases h24 : l.length ≤ 24
      · have f2 : decide ((l.length : Int) > (24 : Int)) = false := by simp; omega
        by_cases h4 : N ≤ 400
        · have f3 : decide ((N : Int) > (400 : Int)) = false := by simp; omega
          go_wp2
          go_ret
          exact ⟨by rw [HGV.out, decide_eq_false (show ¬ 24 < l.length by omega), decide_eq_false (show ¬ 400 < N by omega)]; rfl, HB.out⟩
        · have f3 : decide ((N : Int) > (400 : Int)) = true := by simp; omega
          go_wp2
          go_ret
          exact ⟨by rw [HGV.out, decide_eq_false (show ¬ 24 < l.length by omega), decide_eq_true (show 400 < N by omega)]; rfl, HB.out⟩
      · have f2 : decide ((l.length : Int) > (24 : Int)) = true := by simp; omega
        go_wp2
        go_ret
        exact ⟨by rw [HGV.out, decide_eq_true (show 24 < l.length by omega)]; rfl, HB.out⟩
end Go.Proofs.YtifdbmdfkhnojaaDoor
