/- Texts of one proof, one behind the other. -/
import Derived.Test.YtfoangiphbmipaaMgTermOrder5
import Derived.Deep.RegionWith
import Derived.Test.YtfoangiphbmipaaMgTermOrder8
import Derived.Test.YtfoangiphbmipaaMgTermOrder7
import Derived.Test.YtfoangiphbmipaaMgTermOrder13
/- The guard of the laws: is there room for a type? -/
namespace Go.Proofs.Ytfoangiphbmipaa
open Go.RowKit

/-- What room gives. -/
def RoomIs (n deep : Nat) (f : Fo) (r : Int) : Prop :=
  -1 ≤ r ∧ r ≤ n ∧ (0 ≤ r → 1 + (f.size : Int) + r = n ∧ 1 + f.depth ≤ deep) ∧ (1 + f.size ≤ n → 1 + f.depth ≤ deep → r = (n : Int) - (1 + f.size))
theorem RoomIs.zero (n : Nat) (f : Fo) : RoomIs n 0 f (-1) := ⟨by omega, by omega, by omega, by omega⟩
theorem RoomIs.none (deep : Nat) (f : Fo) : RoomIs 0 deep f (-1) := ⟨by omega, by omega, by omega, by omega⟩
set_option maxHeartbeats 1000000 in
set_option maxRecDepth 100000 in
theorem room_any (deep : Nat) : ∀ (f : Fo) (k n0 : Int) (v : Value) (n : Nat) (w : World), deep ≤ 40 → n ≤ 300 → TyV w.heap.size w f v →
    Calls Try.prog 29 #[tyVal k n0 v, .int .i64 n, .int .i64 deep] w fun e w' => ∃ r, e = .returned (.int .i64 r) ∧ Below w.heap.size w w' ∧ RoomIs n deep f r := by
  induction deep with
  | zero =>
    intro f k n0 v n w hd hn h
    obtain ⟨A, c, rfl⟩ := h.slice
    clear h
    unfold tyVal
    go_enter Try.func29, Try.ntmps29
    go_wp2_with fail
    go_ret
    exact ⟨_, rfl, (Below.refl _ _).alloc (Nat.le_refl _) _, RoomIs.zero n f⟩
  | succ deep ih =>
    intro f k n0 v n w hd hn h
    obtain ⟨A, c, rfl⟩ := h.slice
    have H := Lib.hid h
    have IH := Lib.hid ih
    have hml : f.len ≤ maxLen := by
      rcases Nat.eq_zero_or_pos f.len with h0 | h0
      · omega
      · obtain ⟨_, _, cap, _, h1, h2, _⟩ := h.form h0
        exact Nat.le_trans h1 h2
    replace hml : f.len ≤ 9223372036854775807 := by unfold maxLen at hml; omega
    clear h ih
    rw [show (((deep + 1 : Nat)) : Int) = (deep : Int) + 1 from by omega]
    unfold tyVal
    go_enter Try.func29, Try.ntmps29
    have HB0 := Lib.hid (show ∀ (cs : Array Value) (t : TypeId), Below w.heap.size w (w.alloc (Obj.cells cs t)) from fun cs t => (Below.refl _ w).alloc (Nat.le_refl _) _)
    have f1 : ((deep : Int) + 1 == 0) = false := beq_eq_false_iff_ne.2 (by omega)
    go_wp2_with fail
    go_loopw [1, 7] (fun t1 t7 wr => ∃ (j : Nat) (r : Int), j ≤ f.len ∧ t7 = .int .i64 j ∧ t1 = .int .i64 r ∧ RoomIs n (deep + 1) (f.take j) r ∧ wr.cell? ⟨w.heap.size, 2, none⟩ = some (.slice A f.len c) ∧ Below w.heap.size w wr ∧ w.heap.size + 1 ≤ wr.heap.size) (fun _ t _ => f.len - (intOf t).toNat)
    case atStart =>
      refine ⟨0, (n : Int) - 1, Nat.zero_le _, rfl, by go_num, ?_, by go_simp, HB0.out _ _, by simp⟩
      unfold RoomIs
      simp only [Fo.take_zero, Fo.size, Fo.depth]
      omega
    case round =>
      obtain ⟨j, r, hj, rfl, rfl, hr, e2, hb, hz⟩ := hrel
      have HB := Lib.hid hb
      have HR := Lib.hid hr
      have hr0 : -1 ≤ r ∧ r ≤ n := ⟨hr.1, hr.2.1⟩
      clear hb hr
      by_cases hjl : j < f.len
      · by_cases hr1 : 0 ≤ r
        · obtain ⟨rn, rfl⟩ := Int.eq_ofNat_of_zero_le hr1
          obtain ⟨b, off, cap, hv, _, _, hlt, hC⟩ := H.out.form (by omega)
          injection hv with hA _ hcc
          subst hA; subst hcc
          obtain ⟨d0, d1, d2, hch⟩ := tyC_at hC j hjl
          have c0 := (HB.out.cell (p := ⟨b, off + j * 3, none⟩) hlt).trans d0
          have c1 := (HB.out.cell (p := ⟨b, off + j * 3 + 1, none⟩) hlt).trans d1
          have c2 := (HB.out.cell (p := ⟨b, off + j * 3 + 2, none⟩) hlt).trans d2
          have hch' : TyV wr.heap.size wr (f.at_ j).2.2.2 (slv (f.at_ j).2.2.1) := hch.keep HB.out.size fun b off hb' => HB.out.cell (p := ⟨b, off, none⟩) hb'
          have HST := Lib.hid (f.size_take_step j hjl)
          have HDT := Lib.hid (f.depth_take_step j hjl)
          have hrec := IH.out (f.at_ j).2.2.2 (f.at_ j).1 (f.at_ j).2.1 (slv (f.at_ j).2.2.1) rn wr (by omega) (by omega) hch'
          clear d0 d1 d2 hC hch hch'
          unfold tyVal at hrec
          generalize f.at_ j = p at *
          obtain ⟨pk, pn, pv, pf⟩ := p
          dsimp only [slv] at hrec c0 c1 c2
          have HREC := Lib.hid hrec
          clear hrec
          have f2 : decide ((0 : Int) ≤ rn) = true := decide_eq_true hr1
          go_wp2_with fail
          refine HREC.out.mono ?_
          rintro e w2 ⟨r2, rfl, hb3, hr2⟩
          have e2' := (hb3.cell (p := ⟨w.heap.size, 2, none⟩) (by show w.heap.size < wr.heap.size; omega)).trans e2
          have HB3 := Lib.hid hb3
          have HR2 := Lib.hid hr2
          clear hb3 hr2
          go_wp2_with fail
          go_roundw
          case rel =>
            refine ⟨j + 1, r2, by omega, by go_num, rfl, ?_, e2', HB.out.trans (HB3.out.mono (by omega)), Nat.le_trans hz HB3.out.size⟩
            have h1 := HR.out
            have h2 := HR2.out
            have h3 := HST.out
            have h4 := HDT.out
            unfold RoomIs at h1 h2 ⊢
            omega
          case measure => simp [intOf]; omega
        · have f2 : decide ((0 : Int) ≤ r) = false := decide_eq_false hr1
          have HTL := Lib.hid (f.size_take_le j)
          have HDL := Lib.hid (f.depth_take_le j)
          go_wp2_with fail
          go_ret
          refine ⟨_, rfl, HB.out, ?_⟩
          have h1 := HR.out
          have h3 := HTL.out
          have h4 := HDL.out
          unfold RoomIs at h1 ⊢
          omega
      · obtain rfl : j = f.len := by omega
        have HT : Hid (f.take f.len = f) := Lib.hid f.take_len
        go_wp2_with fail
        go_ret
        refine ⟨_, rfl, HB.out, ?_⟩
        have h1 := HR.out
        rwa [HT.out] at h1
set_option maxHeartbeats 1000000 in
/-- Is there more than is asked of? -/
theorem great_any (f : Fo) (k n0 : Int) (v : Value) (w : World) (h : TyV w.heap.size w f v) :
    Calls Try.prog 23 #[tyVal k n0 v] w fun e w' => e = .returned (.bool (!(decide (1 + f.size ≤ 300) && decide (1 + f.depth ≤ 40)))) ∧ Below w.heap.size w w' := by
  obtain ⟨A, c, rfl⟩ := h.slice
  obtain ⟨w1, hw1⟩ : ∃ w1, w.alloc (Obj.cells #[.int .i64 k, .int .i64 n0, .slice A f.len c] 24) = w1 := ⟨_, rfl⟩
  have hb1 : Below w.heap.size w w1 := by rw [← hw1]; exact (Below.refl _ _).alloc (Nat.le_refl _) _
  have hs1 := hb1.size
  have hc := room_any 40 f k n0 (.slice A f.len c) 300 w1 (by omega) (by omega) (h.keep hs1 fun b off hb' => hb1.cell (p := ⟨b, off, none⟩) hb')
  rw [← hw1] at hc
  have HC := Lib.hid hc
  have HB1 := Lib.hid hb1
  have HW1 := Lib.hid hw1
  clear h hc hs1 hb1 hw1
  unfold tyVal at HC ⊢
  go_enter Try.func23, Try.ntmps23
  go_wp2_with fail
  refine HC.out.mono ?_
  rintro e w' ⟨r, rfl, hb, hr⟩
  have hd : decide (r < 0) = !(decide (1 + f.size ≤ 300) && decide (1 + f.depth ≤ 40)) := by
    unfold RoomIs at hr
    by_cases h1 : r < 0
    · have : ¬ (1 + f.size ≤ 300 ∧ 1 + f.depth ≤ 40) := by omega
      rw [decide_eq_true h1]
      simp only [← Bool.decide_and, decide_eq_false this]
      rfl
    · have : 1 + f.size ≤ 300 ∧ 1 + f.depth ≤ 40 := by omega
      rw [decide_eq_false h1]
      simp only [← Bool.decide_and, decide_eq_true this]
      rfl
  have HD := Lib.hid hd
  rw [HW1.out] at hb
  have HB := Lib.hid (show Below w.heap.size w w' from HB1.out.trans (hb.mono HB1.out.size))
  clear hd hr hb
  go_wp2_with fail
  go_ret
  exact ⟨ret_bool HD.out, HB.out⟩
end Go.Proofs.Ytfoangiphbmipaa
/- The guard of the laws on terms: is there room for one? -/
namespace Go.Proofs.Ytfoangiphbmipaa
open Go.RowKit

/-- A name, and a type, that are not too great. -/
def OkN (x : Nd) : Prop := x.s.size ≤ 60 ∧ x.ty.size ≤ 299
def Te.all (P : Nd → Prop) : Te → Prop
  | .nil => True
  | .cons x ps r => P x ∧ ps.all P ∧ r.all P
theorem Te.all_app {P : Nd → Prop} {f g : Te} (h : f.all P) (k : g.all P) : (f.app g).all P := by
  induction f with
  | nil => exact k
  | cons x ps r _ ih => exact ⟨h.1, h.2.1, ih h.2.2⟩
theorem Te.all_take {P : Nd → Prop} {f : Te} {j : Nat} (hj : j < f.len) (h : (f.take j).all P) (k : P (f.at_ j).1) (l : (f.at_ j).2.all P) : (f.take (j + 1)).all P := by
  rw [Te.take_step f j hj]
  exact Te.all_app h ⟨k, l, trivial⟩
theorem Te.all_at {P : Nd → Prop} {f : Te} (h : f.all P) (j : Nat) (hj : j < f.len) : P (f.at_ j).1 ∧ (f.at_ j).2.all P := by
  induction f generalizing j with
  | nil => simp [Te.len] at hj
  | cons x ps r _ ih =>
    cases j with
    | zero => exact ⟨h.1, h.2.1⟩
    | succ j => exact ih h.2.2 j (by simp [Te.len] at hj; omega)
theorem Te.all_pre {P : Nd → Prop} {f : Te} (h : f.all P) : ∀ t ∈ f.pre, P t.1 ∧ t.2.all P := by
  induction f with
  | nil => intro t ht; cases ht
  | cons x ps r ih1 ih2 =>
    intro t ht
    simp only [Te.pre, List.mem_cons, List.mem_append] at ht
    rcases ht with rfl | ht | ht
    · exact ⟨h.1, h.2.1⟩
    · exact ih1 h.2.1 t ht
    · exact ih2 h.2.2 t ht
theorem Te.all_tyb {f : Te} (h : f.all OkN) : f.tyb := by
  induction f with
  | nil => trivial
  | cons x ps r ih1 ih2 => exact ⟨by have := h.1.2; omega, ih1 h.2.1, ih2 h.2.2⟩
/-- What room gives. -/
def RoomE (n : Nat) (x : Nd) (f : Te) (r : Int) : Prop := -1 ≤ r ∧ r ≤ n ∧ (0 ≤ r → 1 + (f.size : Int) + r = n ∧ OkN x ∧ f.all OkN)
set_option maxHeartbeats 1000000 in
set_option maxRecDepth 100000 in
theorem eroom_any (deep : Nat) : ∀ (f : Te) (x : Nd) (n : Nat) (w : World), deep ≤ 60 → n ≤ 200 → TmL w.heap.size w (x, f) →
    Calls Try.prog 14 #[teVal x, .int .i64 n, .int .i64 deep] w fun e w' => ∃ r, e = .returned (.int .i64 r) ∧ Below w.heap.size w w' ∧ RoomE n x f r := by
  induction deep with
  | zero =>
    intro f x n w hd hn h
    obtain ⟨x0, x1, x2, x3, x4, ⟨xu1, xu2, xu3⟩, x6, ⟨xv1, xv2, xv3⟩, x8, x9⟩ := x
    clear h
    dsimp only [teVal, slv]
    go_enter Try.func14, Try.ntmps14
    go_wp2_with fail
    go_ret
    exact ⟨_, rfl, (Below.refl _ _).alloc (Nat.le_refl _) _, by unfold RoomE; omega⟩
  | succ deep ih =>
    intro f x n w hd hn h
    obtain ⟨A, c, hv⟩ := h.2.slice
    obtain ⟨x0, x1, x2, x3, x4, ⟨xu1, xu2, xu3⟩, x6, ⟨xv1, xv2, xv3⟩, x8, x9⟩ := x
    obtain ⟨q, hq⟩ : ∃ q, f.len = q := ⟨_, rfl⟩
    dsimp only [slv] at hv
    rw [hq] at hv
    injection hv with e1 e2 e3
    subst e1; subst e2; subst e3
    have H := Lib.hid h.2
    have IH := Lib.hid ih
    have hml : xv2 ≤ 9223372036854775807 := by
      rcases Nat.eq_zero_or_pos f.len with h0 | h0
      · omega
      · obtain ⟨_, _, cap, _, h1, h2, _⟩ := h.2.form h0
        unfold maxLen at h2
        rw [hq] at h1
        omega
    have HQ := Lib.hid hq
    have hg : ∀ w1 : World, Below w.heap.size w w1 → Calls Try.prog 23 #[.agg #[.int .i64 x3, .int .i64 x4, .slice xu1 xu2 xu3]] w1 fun e w' => ∃ b, e = .returned (.bool b) ∧ Below w1.heap.size w1 w' ∧ (b = false → x6.size ≤ 299) := fun w1 hb =>
      (great_any x6 x3 x4 (slv (xu1, xu2, xu3)) w1 (h.1.up hb hb.size)).mono fun e w' ⟨he, hb'⟩ => ⟨_, he, hb', fun hf => by
        have h2 : (decide (1 + x6.size ≤ 300) && decide (1 + x6.depth ≤ 40)) = true := by simpa using hf
        simp only [Bool.and_eq_true, decide_eq_true_eq] at h2
        omega⟩
    have HG := Lib.hid hg
    clear h ih hq hg
    rw [show (((deep + 1 : Nat)) : Int) = (deep : Int) + 1 from by omega]
    dsimp only [teVal, slv]
    have HB0 := Lib.hid (show ∀ (cs : Array Value) (t : TypeId), Below w.heap.size w (w.alloc (Obj.cells cs t)) from fun cs t => (Below.refl _ w).alloc (Nat.le_refl _) _)
    have f1 : ((deep : Int) + 1 == 0) = false := beq_eq_false_iff_ne.2 (by omega)
    obtain ⟨W0, hW0⟩ : ∃ W0, w.alloc (Obj.cells #[.int .i64 x0, .string x1, .int .i64 x2, .int .i64 x3, .int .i64 x4, .slice xu1 xu2 xu3, .slice xv1 xv2 xv3, .int .i64 x8, .int .i64 x9] 29) = W0 := ⟨_, rfl⟩
    have hb0 : Below w.heap.size w W0 := by rw [← hW0]; exact (Below.refl _ w).alloc (Nat.le_refl _) _
    have e60 : W0.cell? ⟨w.heap.size, 6, none⟩ = some (.slice xv1 xv2 xv3) := by rw [← hW0]; exact cell_of_row _ _ 6 _ _ (0, 0) (heap_alloc_new w _)
    have hs0 : W0.heap.size = w.heap.size + 1 := by rw [← hW0]; simp
    have hc0 := HG.out W0 hb0
    rw [← hW0] at hc0
    have HC0 := Lib.hid hc0
    have HW0 := Lib.hid (And.intro hW0 (And.intro hb0 (And.intro e60 hs0)))
    clear hc0 hb0 e60 hs0 hW0
    by_cases h60 : (60 : Int) < x1.size
    · go_enter Try.func14, Try.ntmps14
      go_wp2_with fail
      go_ret
      exact ⟨_, rfl, HB0.out _ _, by unfold RoomE; omega⟩
    · go_enter Try.func14, Try.ntmps14
      go_wp2_with fail
      refine HC0.out.mono ?_
      rintro e wg ⟨b, rfl, hbg, hgr⟩
      rw [HW0.out.1] at hbg
      have HGB := Lib.hid (show Below w.heap.size w wg from HW0.out.2.1.trans (hbg.mono HW0.out.2.1.size))
      have e6 : wg.cell? ⟨w.heap.size, 6, none⟩ = some (.slice xv1 xv2 xv3) := (hbg.cell (p := ⟨w.heap.size, 6, none⟩) (by simp only; have := HW0.out.2.2.2; omega)).trans HW0.out.2.2.1
      have hzg : w.heap.size + 1 ≤ wg.heap.size := by have := hbg.size; have := HW0.out.2.2.2; omega
      have HGR := Lib.hid hgr
      clear hgr hbg
      cases b with
      | true =>
        go_wp2_with fail
        go_ret
        exact ⟨_, rfl, HGB.out, by unfold RoomE; omega⟩
      | false =>
        have HOK := Lib.hid (show OkN ⟨x0, x1, x2, x3, x4, (xu1, xu2, xu3), x6, (xv1, xv2, xv3), x8, x9⟩ from ⟨by show x1.size ≤ 60; omega, HGR.out rfl⟩)
        go_wp2_with fail
        go_loopw [1, 7] (fun t1 t7 wr => ∃ (j : Nat) (r : Int), j ≤ xv2 ∧ t7 = .int .i64 j ∧ t1 = .int .i64 r ∧ (-1 ≤ r ∧ r ≤ n ∧ (0 ≤ r → 1 + ((f.take j).size : Int) + r = n ∧ (f.take j).all OkN)) ∧ wr.cell? ⟨w.heap.size, 6, none⟩ = some (.slice xv1 xv2 xv3) ∧ Below w.heap.size w wr ∧ w.heap.size + 1 ≤ wr.heap.size) (fun _ t _ => xv2 - (intOf t).toNat)
        case atStart =>
          refine ⟨0, (n : Int) - 1, Nat.zero_le _, rfl, by go_num, ?_, e6, HGB.out, hzg⟩
          simp only [Te.take_zero, Te.size]
          exact ⟨by omega, by omega, fun _ => ⟨by omega, trivial⟩⟩
        case round =>
          obtain ⟨j, r, hj, rfl, rfl, hr, e2, hb, hz⟩ := hrel
          have HB := Lib.hid hb
          have HR := Lib.hid hr
          have hr0 : -1 ≤ r ∧ r ≤ n := ⟨hr.1, hr.2.1⟩
          clear hb hr
          by_cases hjl : j < xv2
          · by_cases hr1 : 0 ≤ r
            · obtain ⟨rn, rfl⟩ := Int.eq_ofNat_of_zero_le hr1
              have hjf : j < f.len := by rw [HQ.out]; exact hjl
              obtain ⟨b, off, cap, hv, _, _, hlt, hC⟩ := H.out.form (by omega)
              dsimp only [slv] at hv
              injection hv with hA hmid hcc
              clear hmid
              subst hA; subst hcc
              obtain ⟨hnd, hch⟩ := teC_at hC j hjf
              have hnd' := NdAt.below (B := w.heap.size) hnd HB.out hlt
              have hch' := hch.up HB.out HB.out.size
              have HST := Lib.hid (f.size_take_step j hjf)
              have HAT := Lib.hid (fun h1 h2 h3 => Te.all_take (P := OkN) hjf h1 h2 h3)
              have hrec := IH.out (f.at_ j).2 (f.at_ j).1 rn wr (by omega) (by omega) hch'
              clear hnd hC hch hch'
              generalize f.at_ j = p at *
              obtain ⟨⟨y0, y1, y2, y3, y4, ⟨yu1, yu2, yu3⟩, y6, ⟨yv1, yv2, yv3⟩, y8, y9⟩, yp⟩ := p
              dsimp only [teVal, slv] at hrec
              obtain ⟨c0, c1, c2, c3, c4, c5, c6, c7, c8⟩ := hnd'
              dsimp only [slv] at c5 c6
              have HREC := Lib.hid hrec
              clear hrec
              have f2 : decide ((0 : Int) ≤ rn) = true := decide_eq_true hr1
              go_wp2_with fail
              refine HREC.out.mono ?_
              rintro e w2 ⟨r2, rfl, hb3, hr2⟩
              have e2' := (hb3.cell (p := ⟨w.heap.size, 6, none⟩) (by show w.heap.size < wr.heap.size; omega)).trans e2
              have HB3 := Lib.hid hb3
              have HR2 := Lib.hid hr2
              clear hb3 hr2 c0 c1 c2 c3 c4 c5 c6 c7 c8
              go_wp2_with fail
              go_roundw
              case rel =>
                have h1 := HR.out
                have h2 := HR2.out
                have h3 := HST.out
                unfold RoomE at h2
                refine ⟨j + 1, r2, by omega, by go_num, rfl, ⟨h2.1, by omega, fun h => ?_⟩, e2', HB.out.trans (HB3.out.mono (by omega)), Nat.le_trans hz HB3.out.size⟩
                obtain ⟨k1, k2, k3⟩ := h2.2.2 h
                obtain ⟨k4, k5⟩ := h1.2.2 hr1
                exact ⟨by rw [h3]; omega, HAT.out k5 k2 k3⟩
              case measure => simp [intOf]; omega
            · have f2 : decide ((0 : Int) ≤ r) = false := decide_eq_false hr1
              go_wp2_with fail
              go_ret
              refine ⟨_, rfl, HB.out, hr0.1, hr0.2, fun h => absurd h (by omega)⟩
          · obtain rfl : j = xv2 := by omega
            have HT : Hid (f.take j = f) := Lib.hid (by rw [← HQ.out]; exact f.take_len)
            go_wp2_with fail
            go_ret
            have h1 := HR.out
            rw [HT.out] at h1
            exact ⟨_, rfl, HB.out, h1.1, h1.2.1, fun h => ⟨(h1.2.2 h).1, HOK.out, (h1.2.2 h).2⟩⟩
set_option maxHeartbeats 1000000 in
/-- Is there more than is asked of? -/
theorem egreat_any (f : Te) (x : Nd) (w : World) (h : TmL w.heap.size w (x, f)) :
    Calls Try.prog 4 #[teVal x] w fun e w' => ∃ b, e = .returned (.bool b) ∧ Below w.heap.size w w' ∧ (b = false → 1 + f.size ≤ 200 ∧ OkN x ∧ f.all OkN) := by
  obtain ⟨x0, x1, x2, x3, x4, ⟨xu1, xu2, xu3⟩, x6, ⟨xv1, xv2, xv3⟩, x8, x9⟩ := x
  obtain ⟨w1, hw1⟩ : ∃ w1, w.alloc (Obj.cells #[.int .i64 x0, .string x1, .int .i64 x2, .int .i64 x3, .int .i64 x4, .slice xu1 xu2 xu3, .slice xv1 xv2 xv3, .int .i64 x8, .int .i64 x9] 29) = w1 := ⟨_, rfl⟩
  have hb1 : Below w.heap.size w w1 := by rw [← hw1]; exact (Below.refl _ _).alloc (Nat.le_refl _) _
  have hs1 := hb1.size
  have hc := eroom_any 60 f ⟨x0, x1, x2, x3, x4, (xu1, xu2, xu3), x6, (xv1, xv2, xv3), x8, x9⟩ 200 w1 (by omega) (by omega) (h.up hb1 hs1)
  rw [← hw1] at hc
  have HC := Lib.hid hc
  have HB1 := Lib.hid hb1
  have HW1 := Lib.hid hw1
  clear h hc hs1 hb1 hw1
  dsimp only [teVal, slv] at HC ⊢
  go_enter Try.func4, Try.ntmps4
  go_wp2_with fail
  refine HC.out.mono ?_
  rintro e w' ⟨r, rfl, hb, hr⟩
  rw [HW1.out] at hb
  have HB := Lib.hid (show Below w.heap.size w w' from HB1.out.trans (hb.mono HB1.out.size))
  have HR := Lib.hid hr
  clear hr hb
  go_wp2_with fail
  go_ret
  refine ⟨_, rfl, HB.out, fun hf => ?_⟩
  have h2 : ¬ r < 0 := by simpa using hf
  obtain ⟨_, _, h3⟩ := HR.out
  obtain ⟨h4, h5, h6⟩ := h3 (by omega)
  exact ⟨by omega, h5, h6⟩
end Go.Proofs.Ytfoangiphbmipaa
/- A variable; a type without parts; two types at an address (what of AwA speaks of no text). -/
namespace Go.Proofs.Ytfoangiphbmipaa
open Go.RowKit Go.Shelf
/-- Two types at an address. -/
theorem two_cells {X : World} (g cp : Nat) (k0 n0 k1 n1 : Int) (u0 u1 : Sl) (f0 f1 : Fo) (hg : g < X.heap.size) (hcp : 2 ≤ cp) (hcm : cp ≤ maxLen) (c0 : X.cell? ⟨g, 0, none⟩ = some (.int .i64 k0)) (c1 : X.cell? ⟨g, 1, none⟩ = some (.int .i64 n0)) (c2 : X.cell? ⟨g, 2, none⟩ = some (slv u0)) (c3 : X.cell? ⟨g, 3, none⟩ = some (.int .i64 k1)) (c4 : X.cell? ⟨g, 4, none⟩ = some (.int .i64 n1)) (c5 : X.cell? ⟨g, 5, none⟩ = some (slv u1)) (h0 : TyV X.heap.size X f0 (slv u0)) (h1 : TyV X.heap.size X f1 (slv u1)) : TyV X.heap.size X (.cons k0 n0 u0 f0 (.cons k1 n1 u1 f1 .nil)) (.slice (some ⟨g, 0, none⟩) 2 cp) :=
  tyV_cons.2 ⟨g, 0, cp, rfl, hcp, hcm, hg, tyC_cons.2 ⟨c0, c1, c2, h0, tyC_cons.2 ⟨c3, c4, c5, h1, tyC_nil⟩⟩⟩
theorem no_parts (B : Nat) (w : World) : TyV B w .nil (slv (none, 0, 0)) := tyV_nil.2 ⟨none, 0, rfl⟩
end Go.Proofs.Ytfoangiphbmipaa
/- The answer's Right. -/
namespace Go.Proofs.Ytfoangiphbmipaa
open Go.RowKit

theorem Fo.pre_split (f : Fo) (j : Nat) (hj : j < f.len) : f.pre = (f.take j).pre ++ (((f.at_ j).1, (f.at_ j).2.1, (f.at_ j).2.2.1) :: (f.at_ j).2.2.2.pre) ++ (f.drop (j + 1)).pre := by
  induction f generalizing j with
  | nil => simp [Fo.len] at hj
  | cons k n v ps r _ ih =>
    cases j with
    | zero => simp [Fo.at_, Fo.pre, Fo.take, Fo.drop]
    | succ j =>
      have := ih j (by simp [Fo.len] at hj; omega)
      simp only [Fo.pre, Fo.take, Fo.at_, Fo.drop]
      rw [this]
      simp
theorem Fo.pre_take (f : Fo) (j : Nat) (hj : j < f.len) : (f.take (j + 1)).pre = (f.take j).pre ++ (((f.at_ j).1, (f.at_ j).2.1, (f.at_ j).2.2.1) :: (f.at_ j).2.2.2.pre) := by
  rw [Fo.take_step f j hj, Fo.pre_app]
  simp [Fo.pre]
theorem allAlone_appJ (a b : List Tr) : allAlone (a ++ b) = (allAlone a && allAlone b) := by simp [allAlone]
theorem allAlone_cons (x : Tr) (b : List Tr) : allAlone (x :: b) = (alone x.1 x.2.1 x.2.2.2.1 && allAlone b) := by simp [allAlone]
theorem TyV.len {B : Nat} {w : World} {f : Fo} {u : Sl} (h : TyV B w f (slv u)) : u.2.1 = f.len := by
  obtain ⟨A, c, hv⟩ := h.slice
  unfold slv at hv
  injection hv
end Go.Proofs.Ytfoangiphbmipaa
