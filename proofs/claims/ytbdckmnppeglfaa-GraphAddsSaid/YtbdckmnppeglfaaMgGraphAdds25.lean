/- Texts of one proof, one behind the other. -/
import Derived.Test.YtbdckmnppeglfaaMgGraphAdds24
import Derived.Test.YtbdckmnppeglfaaMgGraphAdds12
import Derived.Test.YtbdckmnppeglfaaMgGraphAdds6
import Derived.Deep.RegionWith
import Derived.Test.YtbdckmnppeglfaaMgGraphAdds9
/- graph's example. -/
namespace Go.Proofs.Ytbdckmnppeglfaa
open Go.RowKit Go.Shelf
set_option maxRecDepth 100000
theorem arrow_pair (X : World) (g cp : Nat) (k0 n0 k1 n1 : Int) (u0 u1 : Sl) (f0 f1 : Fo) (hg : g < X.heap.size) (hcp : 2 ≤ cp) (hcm : cp ≤ maxLen) (c0 : X.cell? ⟨g, 0, none⟩ = some (.int .i64 k0)) (c1 : X.cell? ⟨g, 1, none⟩ = some (.int .i64 n0)) (c2 : X.cell? ⟨g, 2, none⟩ = some (slv u0)) (c3 : X.cell? ⟨g, 3, none⟩ = some (.int .i64 k1)) (c4 : X.cell? ⟨g, 4, none⟩ = some (.int .i64 n1)) (c5 : X.cell? ⟨g, 5, none⟩ = some (slv u1)) (h0 : TyV X.heap.size X f0 (slv u0)) (h1 : TyV X.heap.size X f1 (slv u1)) (hs : f0.size + f1.size < 1000) :
    Calls Try.prog 51 #[.slice (some ⟨g, 0, none⟩) 2 cp] X fun e w' => ∃ u' : Sl, e = .returned (tyVal 4 0 (slv u')) ∧ Below X.heap.size X w' ∧ FreshT 38 X.heap.size w' idn (.cons k0 n0 u0 f0 (.cons k1 n1 (none, 0, 0) f1 .nil)) u' := by
  have h := arrow_any X _ _ (two_cells g cp k0 n0 k1 n1 u0 u1 f0 f1 hg hcp hcm c0 c1 c2 c3 c4 c5 h0 h1) (by simp only [Fo.size]; omega)
  simpa [Fo.arrF, Fo.len] using h
/-- What the example adds. -/
def VV (a b : Sl) : Fo := .cons 1 0 a .nil (.cons 1 0 b .nil .nil)
theorem img_vv {G : Fo} (h : Img idn (VV (none, 0, 0) (none, 0, 0)) G) : ∃ a b, G = VV a b := by
  cases G with
  | nil => exact h.elim
  | cons k n a ps r =>
    obtain ⟨rfl, rfl, h1, h2⟩ := h
    cases ps with
    | cons => exact h1.elim
    | nil =>
      cases r with
      | nil => exact h2.elim
      | cons k n b ps r =>
        obtain ⟨rfl, rfl, h3, h4⟩ := h2
        cases ps with
        | cons => exact h3.elim
        | nil => cases r with
          | cons => exact h4.elim
          | nil => exact ⟨a, b, rfl⟩
theorem vv_add (a b : Sl) : gadd1 [] 4 0 (VV a b) = ([(1, 0, 1, []), (4, 0, 3, [0, 0])], 1) := by
  simp only [VV, gadd1_eq, gadd_cons, gadd_nil]
  rfl
set_option maxHeartbeats 4000000 in
theorem awake11 (w : World) : Calls Try.prog 11 #[] w fun e w' => e = .returned (.bool true) ∧ Below w.heap.size w w' := by
  go_enter Try.func11, Try.ntmps11
  go_wp2_with fail
  refine (new_graph w).mono ?_
  rintro e w1 ⟨g, mb, rfl, hG, hb1⟩
  have HG := Lib.hid hG
  have HB1 := Lib.hid hb1
  clear hG hb1
  go_wp2_with fail
  refine (var_any 0 w1).mono ?_
  rintro e w2 ⟨rfl, hb2⟩
  have HB2 := Lib.hid (HB1.out.trans (hb2.mono HB1.out.size))
  have HG2 := Lib.hid (HG.out.below hb2)
  clear hb2 HG
  dsimp only [tyVal]
  go_wp2_with fail
  refine (var_any 0 w2).mono ?_
  rintro e w3 ⟨rfl, hb3⟩
  have HG3 := Lib.hid (HG2.out.below hb3)
  have HB13 := Lib.hid (HB2.out.trans (hb3.mono HB2.out.size))
  obtain ⟨w4, hw4⟩ : ∃ w4, w3.alloc (.cells #[.int .i64 1, .int .i64 0, .slice none 0 0, .int .i64 1, .int .i64 0, .slice none 0 0] 38) = w4 := ⟨_, rfl⟩
  have hb4 : Below w3.heap.size w3 w4 := by rw [← hw4]; exact (Below.refl _ _).alloc (Nat.le_refl _) _
  have h4 : w4.heap[w3.heap.size]? = some (Obj.cells #[.int .i64 1, .int .i64 0, .slice none 0 0, .int .i64 1, .int .i64 0, .slice none 0 0] 38) := by rw [← hw4]; exact heap_alloc_new _ _
  have har := arrow_pair w4 w3.heap.size 2 1 0 1 0 (none, 0, 0) (none, 0, 0) .nil .nil (Array.getElem?_eq_some_iff.1 h4).1 (Nat.le_refl _) (by unfold maxLen; omega) (cell_of_row _ _ 0 _ _ (0, 0) h4) (cell_of_row _ _ 1 _ _ (0, 0) h4) (cell_of_row _ _ 2 _ _ (0, 0) h4) (cell_of_row _ _ 3 _ _ (0, 0) h4) (cell_of_row _ _ 4 _ _ (0, 0) h4) (cell_of_row _ _ 5 _ _ (0, 0) h4) (no_parts _ _) (no_parts _ _) (by simp [Fo.size])
  have HAR := Lib.hid har
  have HG4 := Lib.hid (HG3.out.below hb4)
  have HB14 := Lib.hid (HB13.out.trans (hb4.mono HB13.out.size))
  clear har hb4 h4 hb3 HB2 HG2 HG3
  dsimp only [tyVal, slv] at HAR ⊢
  go_wp2_with fail
  refine HAR.out.mono ?_
  clear HAR
  rintro e w5 ⟨⟨u1, u2, u3⟩, rfl, hb5, hF5⟩
  obtain ⟨F, hF, hFt⟩ := hF5.now
  obtain ⟨a, b, rfl⟩ := img_vv hF
  have hb15 := HB14.out.trans (hb5.mono HB14.out.size)
  have hu2 := TyV.len (u := (u1, u2, u3)) hFt
  obtain ⟨ha2, -, hb2', -, -⟩ := (TyV.list hFt).lenOk
  have hal : allAlone (Fo.cons 4 0 (u1, u2, u3) (VV a b) .nil).pre = true := by
    obtain ⟨a1, a2, a3⟩ := a
    obtain ⟨b1, b2, b3⟩ := b
    dsimp only [Fo.len] at ha2 hb2'
    have hu : u2 = 2 := hu2
    subst hu ha2 hb2'
    simp [allAlone, VV, Fo.pre, alone]
  have hadd := add_graph w5 w.heap.size g mb _ [] [] (HG4.out.below hb5) hb15.size (fun x hx => by cases hx) w5.heap.size (Nat.le_refl _) 4 0 (u1, u2, u3) _ hFt ⟨by decide, ⟨by decide, trivial, by decide, trivial, trivial⟩, trivial⟩ (by simp [VV, Fo.size]) hal
  rw [vv_add] at hadd
  have HAD := Lib.hid hadd
  have HB15 := Lib.hid hb15
  clear hadd hb15 hb5 hF5 hF hFt HB14 HG4 HB13 hal hu2 ha2 hb2'
  dsimp only [tyVal, slv] at HAD
  dsimp only
  go_wp2_with fail
  refine HAD.out.mono ?_
  clear HAD
  rintro e w6 ⟨v', E, rfl, hG6, hc6, -⟩
  have hb6 : Below w.heap.size w w6 := ⟨hc6.os.trans HB15.out.os, hc6.tape.trans HB15.out.tape, hc6.output.trans HB15.out.output, Nat.le_trans HB15.out.size hc6.size, fun b hb => (hc6.block b (Nat.lt_of_lt_of_le hb HB15.out.size) (by have := hG6.ge; omega) (by have := hG6.ge; omega) (by simp [Value.ownBlock])).trans (HB15.out.block b hb)⟩
  have HG6 := Lib.hid hG6
  have HB6 := Lib.hid hb6
  clear hG6 hc6 hb6 HB15
  dsimp only
  go_wp2_with fail
  refine (len_graph w6 w.heap.size g mb v' _ _ HG6.out).mono ?_
  rintro e w7 ⟨rfl, rfl⟩
  dsimp only [List.length_cons, List.length_nil]
  go_wp2_with fail
  have hpa := parts_in w7 w.heap.size g mb v' _ _ HG6.out 1 (by simp) (by simp)
  have HPA := Lib.hid hpa
  clear hpa
  refine HPA.out.mono ?_
  clear HPA
  rintro e w8 ⟨v8, rfl, own8, hb8⟩
  obtain ⟨w9, hw9⟩ : ∃ w9, w8.alloc (.cells #[.int .i64 0, .int .i64 0] 3) = w9 := ⟨_, rfl⟩
  have hb9 : Below w8.heap.size w8 w9 := by rw [← hw9]; exact (Below.refl _ _).alloc (Nat.le_refl _) _
  have hr9 : Rd w9 1 (.slice (some ⟨w8.heap.size, 0, none⟩) 2 2) [(0 : Int), 0].length (ints [(0 : Int), 0]) := by
    rw [← hw9]; exact rd_new w8 [.int .i64 0, .int .i64 0] 3 1 2 rfl (by unfold maxLen; omega)
  have hro := Rd.of_own (own_below own8 hb9)
  have hin := rints_any [(0 : Int), 0] [(0 : Int), 0] v8 _ w9 hro hr9 (by simp) (by simp)
  rw [show (([(0 : Int), 0] == [(0 : Int), 0]) = true) from rfl] at hin
  have HIN := Lib.hid hin
  obtain ⟨A8, c8, rfl, -, -⟩ := own_form own8
  have HB9 := Lib.hid (HB6.out.trans ((hb8.trans (hb9.mono hb8.size)).mono HB6.out.size))
  clear hin hr9 hro own8 hb8 hb9
  go_wp2_with fail
  refine HIN.out.mono ?_
  clear HIN
  rintro e w10 ⟨rfl, hb10⟩
  go_wp2_with fail
  go_ret
  exact ⟨rfl, HB9.out.trans (hb10.mono HB9.out.size)⟩
end Go.Proofs.Ytbdckmnppeglfaa
/- The guard of the laws: is there room for a type? -/
namespace Go.Proofs.Ytbdckmnppeglfaa
open Go.RowKit

/-- What room gives. -/
def RoomIs (n deep : Nat) (f : Fo) (r : Int) : Prop :=
  -1 ≤ r ∧ r ≤ n ∧ (0 ≤ r → 1 + (f.size : Int) + r = n ∧ 1 + f.depth ≤ deep) ∧ (1 + f.size ≤ n → 1 + f.depth ≤ deep → r = (n : Int) - (1 + f.size))
theorem RoomIs.zero (n : Nat) (f : Fo) : RoomIs n 0 f (-1) := ⟨by omega, by omega, by omega, by omega⟩
theorem RoomIs.none (deep : Nat) (f : Fo) : RoomIs 0 deep f (-1) := ⟨by omega, by omega, by omega, by omega⟩
set_option maxHeartbeats 1000000 in
set_option maxRecDepth 100000 in
theorem room_any (deep : Nat) : ∀ (f : Fo) (k n0 : Int) (v : Value) (n : Nat) (w : World), deep ≤ 40 → n ≤ 300 → TyV w.heap.size w f v →
    Calls Try.prog 63 #[tyVal k n0 v, .int .i64 n, .int .i64 deep] w fun e w' => ∃ r, e = .returned (.int .i64 r) ∧ Below w.heap.size w w' ∧ RoomIs n deep f r := by
  induction deep with
  | zero =>
    intro f k n0 v n w hd hn h
    obtain ⟨A, c, rfl⟩ := h.slice
    clear h
    unfold tyVal
    go_enter Try.func63, Try.ntmps63
    go_wp2_with fail
    go_ret
    exact ⟨_, rfl, (Below.refl _ _).alloc (Nat.le_refl _) _, RoomIs.zero n f⟩
  | succ deep ih =>
    intro f k n0 v n w hd hn h
    obtain ⟨A, c, rfl⟩ := h.slice
    have H := Lib.hid h
    have IH := Lib.hid ih
    have hml : f.len ≤ maxLen := by
      rcases Nat.eq_zero_or_pos f.len with h0 | h0
      · omega
      · obtain ⟨_, _, cap, _, h1, h2, _⟩ := h.form h0
        exact Nat.le_trans h1 h2
    replace hml : f.len ≤ 9223372036854775807 := by unfold maxLen at hml; omega
    clear h ih
    rw [show (((deep + 1 : Nat)) : Int) = (deep : Int) + 1 from by omega]
    unfold tyVal
    go_enter Try.func63, Try.ntmps63
    have HB0 := Lib.hid (show ∀ (cs : Array Value) (t : TypeId), Below w.heap.size w (w.alloc (Obj.cells cs t)) from fun cs t => (Below.refl _ w).alloc (Nat.le_refl _) _)
    have f1 : ((deep : Int) + 1 == 0) = false := beq_eq_false_iff_ne.2 (by omega)
    go_wp2_with fail
    go_loopw [1, 7] (fun t1 t7 wr => ∃ (j : Nat) (r : Int), j ≤ f.len ∧ t7 = .int .i64 j ∧ t1 = .int .i64 r ∧ RoomIs n (deep + 1) (f.take j) r ∧ wr.cell? ⟨w.heap.size, 2, none⟩ = some (.slice A f.len c) ∧ Below w.heap.size w wr ∧ w.heap.size + 1 ≤ wr.heap.size) (fun _ t _ => f.len - (intOf t).toNat)
    case atStart =>
      refine ⟨0, (n : Int) - 1, Nat.zero_le _, rfl, by go_num, ?_, by go_simp, HB0.out _ _, by simp⟩
      unfold RoomIs
      simp only [Fo.take_zero, Fo.size, Fo.depth]
      omega
    case round =>
      obtain ⟨j, r, hj, rfl, rfl, hr, e2, hb, hz⟩ := hrel
      have HB := Lib.hid hb
      have HR := Lib.hid hr
      have hr0 : -1 ≤ r ∧ r ≤ n := ⟨hr.1, hr.2.1⟩
      clear hb hr
      by_cases hjl : j < f.len
      · by_cases hr1 : 0 ≤ r
        · obtain ⟨rn, rfl⟩ := Int.eq_ofNat_of_zero_le hr1
          obtain ⟨b, off, cap, hv, _, _, hlt, hC⟩ := H.out.form (by omega)
          injection hv with hA _ hcc
          subst hA; subst hcc
          obtain ⟨d0, d1, d2, hch⟩ := tyC_at hC j hjl
          have c0 := (HB.out.cell (p := ⟨b, off + j * 3, none⟩) hlt).trans d0
          have c1 := (HB.out.cell (p := ⟨b, off + j * 3 + 1, none⟩) hlt).trans d1
          have c2 := (HB.out.cell (p := ⟨b, off + j * 3 + 2, none⟩) hlt).trans d2
          have hch' : TyV wr.heap.size wr (f.at_ j).2.2.2 (slv (f.at_ j).2.2.1) := hch.keep HB.out.size fun b off hb' => HB.out.cell (p := ⟨b, off, none⟩) hb'
          have HST := Lib.hid (f.size_take_step j hjl)
          have HDT := Lib.hid (f.depth_take_step j hjl)
          have hrec := IH.out (f.at_ j).2.2.2 (f.at_ j).1 (f.at_ j).2.1 (slv (f.at_ j).2.2.1) rn wr (by omega) (by omega) hch'
          clear d0 d1 d2 hC hch hch'
          unfold tyVal at hrec
          generalize f.at_ j = p at *
          obtain ⟨pk, pn, pv, pf⟩ := p
          dsimp only [slv] at hrec c0 c1 c2
          have HREC := Lib.hid hrec
          clear hrec
          have f2 : decide ((0 : Int) ≤ rn) = true := decide_eq_true hr1
          go_wp2_with fail
          refine HREC.out.mono ?_
          rintro e w2 ⟨r2, rfl, hb3, hr2⟩
          have e2' := (hb3.cell (p := ⟨w.heap.size, 2, none⟩) (by show w.heap.size < wr.heap.size; omega)).trans e2
          have HB3 := Lib.hid hb3
          have HR2 := Lib.hid hr2
          clear hb3 hr2
          go_wp2_with fail
          go_roundw
          case rel =>
            refine ⟨j + 1, r2, by omega, by go_num, rfl, ?_, e2', HB.out.trans (HB3.out.mono (by omega)), Nat.le_trans hz HB3.out.size⟩
            have h1 := HR.out
            have h2 := HR2.out
            have h3 := HST.out
            have h4 := HDT.out
            unfold RoomIs at h1 h2 ⊢
            omega
          case measure => simp [intOf]; omega
        · have f2 : decide ((0 : Int) ≤ r) = false := decide_eq_false hr1
          have HTL := Lib.hid (f.size_take_le j)
          have HDL := Lib.hid (f.depth_take_le j)
          go_wp2_with fail
          go_ret
          refine ⟨_, rfl, HB.out, ?_⟩
          have h1 := HR.out
          have h3 := HTL.out
          have h4 := HDL.out
          unfold RoomIs at h1 ⊢
          omega
      · obtain rfl : j = f.len := by omega
        have HT : Hid (f.take f.len = f) := Lib.hid f.take_len
        go_wp2_with fail
        go_ret
        refine ⟨_, rfl, HB.out, ?_⟩
        have h1 := HR.out
        rwa [HT.out] at h1
set_option maxHeartbeats 1000000 in
/-- Is there more than is asked of? -/
theorem great_any (f : Fo) (k n0 : Int) (v : Value) (w : World) (h : TyV w.heap.size w f v) :
    Calls Try.prog 27 #[tyVal k n0 v] w fun e w' => e = .returned (.bool (!(decide (1 + f.size ≤ 300) && decide (1 + f.depth ≤ 40)))) ∧ Below w.heap.size w w' := by
  obtain ⟨A, c, rfl⟩ := h.slice
  obtain ⟨w1, hw1⟩ : ∃ w1, w.alloc (Obj.cells #[.int .i64 k, .int .i64 n0, .slice A f.len c] 38) = w1 := ⟨_, rfl⟩
  have hb1 : Below w.heap.size w w1 := by rw [← hw1]; exact (Below.refl _ _).alloc (Nat.le_refl _) _
  have hs1 := hb1.size
  have hc := room_any 40 f k n0 (.slice A f.len c) 300 w1 (by omega) (by omega) (h.keep hs1 fun b off hb' => hb1.cell (p := ⟨b, off, none⟩) hb')
  rw [← hw1] at hc
  have HC := Lib.hid hc
  have HB1 := Lib.hid hb1
  have HW1 := Lib.hid hw1
  clear h hc hs1 hb1 hw1
  unfold tyVal at HC ⊢
  go_enter Try.func27, Try.ntmps27
  go_wp2_with fail
  refine HC.out.mono ?_
  rintro e w' ⟨r, rfl, hb, hr⟩
  have hd : decide (r < 0) = !(decide (1 + f.size ≤ 300) && decide (1 + f.depth ≤ 40)) := by
    unfold RoomIs at hr
    by_cases h1 : r < 0
    · have : ¬ (1 + f.size ≤ 300 ∧ 1 + f.depth ≤ 40) := by omega
      rw [decide_eq_true h1]
      simp only [← Bool.decide_and, decide_eq_false this]
      rfl
    · have : 1 + f.size ≤ 300 ∧ 1 + f.depth ≤ 40 := by omega
      rw [decide_eq_false h1]
      simp only [← Bool.decide_and, decide_eq_true this]
      rfl
  have HD := Lib.hid hd
  rw [HW1.out] at hb
  have HB := Lib.hid (show Below w.heap.size w w' from HB1.out.trans (hb.mono HB1.out.size))
  clear hd hr hb
  go_wp2_with fail
  go_ret
  exact ⟨ret_bool HD.out, HB.out⟩
end Go.Proofs.Ytbdckmnppeglfaa
/- GraphNone, walked. -/
namespace Go.Proofs.Ytbdckmnppeglfaa
open Go.RowKit Go.Shelf
set_option maxRecDepth 100000
set_option maxHeartbeats 4000000 in
theorem gnone_law (w : World) (k n : Int) (F : Fo) (u : Sl) (i m : Int) (hF : TyV w.heap.size w F (slv u)) : Calls Try.prog 6 #[tyVal k n (slv u), .int .i64 i, .int .i64 m] w fun e w' => e = .returned (.bool true) ∧ Below w.heap.size w w' := by
  obtain ⟨u1, u2, u3⟩ := u
  obtain ⟨w1, hw1⟩ : ∃ w1, w.alloc (.cells #[.int .i64 k, .int .i64 n, .slice u1 u2 u3] 38) = w1 := ⟨_, rfl⟩
  have hb1 : Below w.heap.size w w1 := by rw [← hw1]; exact (Below.refl _ _).alloc (Nat.le_refl _) _
  have hB1 : w1.heap[w.heap.size]? = some (.cells #[.int .i64 k, .int .i64 n, .slice u1 u2 u3] 38) := by rw [← hw1]; exact heap_alloc_new _ _
  have c0 : w1.cell? ⟨w.heap.size, 0, none⟩ = some (.int .i64 k) := cell_of_row w1 _ 0 _ _ (0, 0) hB1
  have c1 : w1.cell? ⟨w.heap.size, 1, none⟩ = some (.int .i64 n) := cell_of_row w1 _ 1 _ _ (0, 0) hB1
  have c2 : w1.cell? ⟨w.heap.size, 2, none⟩ = some (.slice u1 u2 u3) := cell_of_row w1 _ 2 _ _ (0, 0) hB1
  have hlt : w.heap.size < w1.heap.size := by rw [← hw1]; simp
  have hg := great_any F k n (slv (u1, u2, u3)) w1 ((hF.below hb1).keep (Nat.le_of_lt hlt) fun _ _ _ => rfl)
  obtain ⟨gr, hgr⟩ : ∃ gr, (!(decide (1 + F.size ≤ 300) && decide (1 + F.depth ≤ 40))) = gr := ⟨_, rfl⟩
  rw [hgr] at hg
  have HGT := Lib.hid hg
  have HB1 := Lib.hid hb1
  have HX1 := Lib.hid hB1
  clear hg hgr hF hb1 hB1
  dsimp only [tyVal, slv] at HGT ⊢
  go_enter Try.func6, Try.ntmps6
  go_wp2_with fail
  refine HGT.out.mono ?_
  clear HGT
  rintro e w2 ⟨rfl, hb2⟩
  have HB2 := Lib.hid (HB1.out.trans (hb2.mono (Nat.le_of_lt hlt)))
  have x0 : w2.cell? ⟨w.heap.size, 0, none⟩ = some (.int .i64 k) := (hb2.cell (p := ⟨w.heap.size, 0, none⟩) hlt).trans c0
  have x1 : w2.cell? ⟨w.heap.size, 1, none⟩ = some (.int .i64 n) := (hb2.cell (p := ⟨w.heap.size, 1, none⟩) hlt).trans c1
  have x2 : w2.cell? ⟨w.heap.size, 2, none⟩ = some (.slice u1 u2 u3) := (hb2.cell (p := ⟨w.heap.size, 2, none⟩) hlt).trans c2
  clear c0 c1 c2 hb2 HX1
  cases gr
  · go_wp2_with fail
    refine (add_none w2 k n (u1, u2, u3)).mono ?_
    rintro e w3 ⟨rfl, hb3⟩
    have HB3 := Lib.hid (HB2.out.trans (hb3.mono HB2.out.size))
    clear x0 x1 x2 hb3
    go_wp2_with fail
    refine (var_none w3 i).mono ?_
    rintro e w4 ⟨rfl, hb4⟩
    have HB4 := Lib.hid (HB3.out.trans (hb4.mono HB3.out.size))
    clear hb4
    go_wp2_with fail
    refine (name_none w4 i).mono ?_
    rintro e w5 ⟨rfl, hb5⟩
    have HB5 := Lib.hid (HB4.out.trans (hb5.mono HB4.out.size))
    clear hb5
    go_wp2_with fail
    refine (type_none w5 i m).mono ?_
    rintro e w6 ⟨rfl, hb6⟩
    have HB6 := Lib.hid (HB5.out.trans (hb6.mono HB5.out.size))
    obtain ⟨w7, hw7⟩ : ∃ w7, w6.alloc (.cells #[.int .i64 0, .int .i64 0, .slice none 0 0] 38) = w7 := ⟨_, rfl⟩
    have hb7 : Below w6.heap.size w6 w7 := by rw [← hw7]; exact (Below.refl _ _).alloc (Nat.le_refl _) _
    have hB7 : w7.heap[w6.heap.size]? = some (.cells #[.int .i64 0, .int .i64 0, .slice none 0 0] 38) := by rw [← hw7]; exact heap_alloc_new _ _
    have d0 : w7.cell? ⟨w6.heap.size, 0, none⟩ = some (.int .i64 0) := cell_of_row w7 _ 0 _ _ (0, 0) hB7
    have d1 : w7.cell? ⟨w6.heap.size, 1, none⟩ = some (.int .i64 0) := cell_of_row w7 _ 1 _ _ (0, 0) hB7
    have d2 : w7.cell? ⟨w6.heap.size, 2, none⟩ = some (.slice none 0 0) := cell_of_row w7 _ 2 _ _ (0, 0) hB7
    have HB7 := Lib.hid (HB6.out.trans (hb7.mono HB6.out.size))
    have HW7 := Lib.hid hw7
    clear hb6 hb7 hB7 hw7
    dsimp only [tyVal]
    go_wp2_with fail
    rw [HW7.out]
    have hs := rsame_any 1 .nil .nil 0 0 0 0 (.slice none 0 0) (.slice none 0 0) w7 (by simp [Fo.size]) (by simp [Fo.size]) (by simp [Fo.size]) (no_parts _ _) (no_parts _ _)
    rw [show (((0 : Int) == 0 && (0 : Int) == 0 && Fo.nil.same Fo.nil) = true) from rfl] at hs
    have HS := Lib.hid hs
    clear hs
    dsimp only [tyVal] at HS
    refine HS.out.mono ?_
    clear HS
    rintro e w8 ⟨rfl, hb8⟩
    have HB8 := Lib.hid (HB7.out.trans (hb8.mono HB7.out.size))
    clear hb8 d0 d1 d2 HW7
    go_wp2_with fail
    refine (kind_none w8 i).mono ?_
    rintro e w9 ⟨rfl, hb9⟩
    have HB9 := Lib.hid (HB8.out.trans (hb9.mono HB8.out.size))
    clear hb9
    go_wp2_with fail
    refine (parts_none w9 i).mono ?_
    rintro e w10 ⟨rfl, hb10⟩
    have HB10 := Lib.hid (HB9.out.trans (hb10.mono HB9.out.size))
    clear hb10
    go_wp2_with fail
    refine (vars_none w10).mono ?_
    rintro e w11 ⟨rfl, hb11⟩
    have HB11 := Lib.hid (HB10.out.trans (hb11.mono HB10.out.size))
    clear hb11
    go_wp2_with fail
    refine (len_none w11).mono ?_
    rintro e w12 ⟨rfl, rfl⟩
    go_wp2_with fail
    refine (awake11 _).mono ?_
    rintro e w13 ⟨rfl, hb13⟩
    have HB13 := Lib.hid (HB11.out.trans (hb13.mono HB11.out.size))
    clear hb13
    go_wp2_with fail
    go_ret
    exact ⟨rfl, HB13.out⟩
  · go_wp2_with fail
    refine (awake11 w2).mono ?_
    rintro e w3 ⟨rfl, hb3⟩
    go_wp2_with fail
    go_ret
    exact ⟨rfl, HB2.out.trans (hb3.mono HB2.out.size)⟩
end Go.Proofs.Ytbdckmnppeglfaa
