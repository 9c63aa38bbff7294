/- Texts of one proof, one behind the other. -/
import Derived.Test.YtglmhdlkhnlkiaaMgTermApplies7
import Derived.Test.YtglmhdlkhnlkiaaMgTermApplies8
import Derived.Test.YtglmhdlkhnlkiaaMgTermApplies2
import Derived.Test.YtglmhdlkhnlkiaaProg
import Derived.ProofKit
import Derived.OpenShut
import Derived.Deep.Slices
/- The guard of the laws on terms: is there room for one? -/
namespace Go.Proofs.Ytglmhdlkhnlkiaa
open Go.RowKit

/-- A name, and a type, that are not too great. -/
def OkN (x : Nd) : Prop := x.s.size ≤ 60 ∧ x.ty.size ≤ 299
def Te.all (P : Nd → Prop) : Te → Prop
  | .nil => True
  | .cons x ps r => P x ∧ ps.all P ∧ r.all P
theorem Te.all_app {P : Nd → Prop} {f g : Te} (h : f.all P) (k : g.all P) : (f.app g).all P := by
  induction f with
  | nil => exact k
  | cons x ps r _ ih => exact ⟨h.1, h.2.1, ih h.2.2⟩
theorem Te.all_take {P : Nd → Prop} {f : Te} {j : Nat} (hj : j < f.len) (h : (f.take j).all P) (k : P (f.at_ j).1) (l : (f.at_ j).2.all P) : (f.take (j + 1)).all P := by
  rw [Te.take_step f j hj]
  exact Te.all_app h ⟨k, l, trivial⟩
theorem Te.all_at {P : Nd → Prop} {f : Te} (h : f.all P) (j : Nat) (hj : j < f.len) : P (f.at_ j).1 ∧ (f.at_ j).2.all P := by
  induction f generalizing j with
  | nil => simp [Te.len] at hj
  | cons x ps r _ ih =>
    cases j with
    | zero => exact ⟨h.1, h.2.1⟩
    | succ j => exact ih h.2.2 j (by simp [Te.len] at hj; omega)
theorem Te.all_pre {P : Nd → Prop} {f : Te} (h : f.all P) : ∀ t ∈ f.pre, P t.1 ∧ t.2.all P := by
  induction f with
  | nil => intro t ht; cases ht
  | cons x ps r ih1 ih2 =>
    intro t ht
    simp only [Te.pre, List.mem_cons, List.mem_append] at ht
    rcases ht with rfl | ht | ht
    · exact ⟨h.1, h.2.1⟩
    · exact ih1 h.2.1 t ht
    · exact ih2 h.2.2 t ht
theorem Te.all_tyb {f : Te} (h : f.all OkN) : f.tyb := by
  induction f with
  | nil => trivial
  | cons x ps r ih1 ih2 => exact ⟨by have := h.1.2; omega, ih1 h.2.1, ih2 h.2.2⟩
/-- What room gives. -/
def RoomE (n : Nat) (x : Nd) (f : Te) (r : Int) : Prop := -1 ≤ r ∧ r ≤ n ∧ (0 ≤ r → 1 + (f.size : Int) + r = n ∧ OkN x ∧ f.all OkN)
set_option maxHeartbeats 1000000 in
set_option maxRecDepth 100000 in
theorem eroom_any (deep : Nat) : ∀ (f : Te) (x : Nd) (n : Nat) (w : World), deep ≤ 60 → n ≤ 200 → TmL w.heap.size w (x, f) →
    Calls Try.prog 27 #[teVal x, .int .i64 n, .int .i64 deep] w fun e w' => ∃ r, e = .returned (.int .i64 r) ∧ Below w.heap.size w w' ∧ RoomE n x f r := by
  induction deep with
  | zero =>
    intro f x n w hd hn h
    obtain ⟨x0, x1, x2, x3, x4, ⟨xu1, xu2, xu3⟩, x6, ⟨xv1, xv2, xv3⟩, x8, x9⟩ := x
    clear h
    dsimp only [teVal, slv]
    go_enter Try.func27, Try.ntmps27
    go_wp2_with fail
    go_ret
    exact ⟨_, rfl, (Below.refl _ _).alloc (Nat.le_refl _) _, by unfold RoomE; omega⟩
  | succ deep ih =>
    intro f x n w hd hn h
    obtain ⟨A, c, hv⟩ := h.2.slice
    obtain ⟨x0, x1, x2, x3, x4, ⟨xu1, xu2, xu3⟩, x6, ⟨xv1, xv2, xv3⟩, x8, x9⟩ := x
    obtain ⟨q, hq⟩ : ∃ q, f.len = q := ⟨_, rfl⟩
    dsimp only [slv] at hv
    rw [hq] at hv
    injection hv with e1 e2 e3
    subst e1; subst e2; subst e3
    have H := Lib.hid h.2
    have IH := Lib.hid ih
    have hml : xv2 ≤ 9223372036854775807 := by
      rcases Nat.eq_zero_or_pos f.len with h0 | h0
      · omega
      · obtain ⟨_, _, cap, _, h1, h2, _⟩ := h.2.form h0
        unfold maxLen at h2
        rw [hq] at h1
        omega
    have HQ := Lib.hid hq
    have hg : ∀ w1 : World, Below w.heap.size w w1 → Calls Try.prog 38 #[.agg #[.int .i64 x3, .int .i64 x4, .slice xu1 xu2 xu3]] w1 fun e w' => ∃ b, e = .returned (.bool b) ∧ Below w1.heap.size w1 w' ∧ (b = false → x6.size ≤ 299) := fun w1 hb =>
      (great_any x6 x3 x4 (slv (xu1, xu2, xu3)) w1 (h.1.up hb hb.size)).mono fun e w' ⟨he, hb'⟩ => ⟨_, he, hb', fun hf => by
        have h2 : (decide (1 + x6.size ≤ 300) && decide (1 + x6.depth ≤ 40)) = true := by simpa using hf
        simp only [Bool.and_eq_true, decide_eq_true_eq] at h2
        omega⟩
    have HG := Lib.hid hg
    clear h ih hq hg
    rw [show (((deep + 1 : Nat)) : Int) = (deep : Int) + 1 from by omega]
    dsimp only [teVal, slv]
    have HB0 := Lib.hid (show ∀ (cs : Array Value) (t : TypeId), Below w.heap.size w (w.alloc (Obj.cells cs t)) from fun cs t => (Below.refl _ w).alloc (Nat.le_refl _) _)
    have f1 : ((deep : Int) + 1 == 0) = false := beq_eq_false_iff_ne.2 (by omega)
    obtain ⟨W0, hW0⟩ : ∃ W0, w.alloc (Obj.cells #[.int .i64 x0, .string x1, .int .i64 x2, .int .i64 x3, .int .i64 x4, .slice xu1 xu2 xu3, .slice xv1 xv2 xv3, .int .i64 x8, .int .i64 x9] 29) = W0 := ⟨_, rfl⟩
    have hb0 : Below w.heap.size w W0 := by rw [← hW0]; exact (Below.refl _ w).alloc (Nat.le_refl _) _
    have e60 : W0.cell? ⟨w.heap.size, 6, none⟩ = some (.slice xv1 xv2 xv3) := by rw [← hW0]; exact cell_of_row _ _ 6 _ _ (0, 0) (heap_alloc_new w _)
    have hs0 : W0.heap.size = w.heap.size + 1 := by rw [← hW0]; simp
    have hc0 := HG.out W0 hb0
    rw [← hW0] at hc0
    have HC0 := Lib.hid hc0
    have HW0 := Lib.hid (And.intro hW0 (And.intro hb0 (And.intro e60 hs0)))
    clear hc0 hb0 e60 hs0 hW0
    by_cases h60 : (60 : Int) < x1.size
    · go_enter Try.func27, Try.ntmps27
      go_wp2_with fail
      go_ret
      exact ⟨_, rfl, HB0.out _ _, by unfold RoomE; omega⟩
    · go_enter Try.func27, Try.ntmps27
      go_wp2_with fail
      refine HC0.out.mono ?_
      rintro e wg ⟨b, rfl, hbg, hgr⟩
      rw [HW0.out.1] at hbg
      have HGB := Lib.hid (show Below w.heap.size w wg from HW0.out.2.1.trans (hbg.mono HW0.out.2.1.size))
      have e6 : wg.cell? ⟨w.heap.size, 6, none⟩ = some (.slice xv1 xv2 xv3) := (hbg.cell (p := ⟨w.heap.size, 6, none⟩) (by simp only; have := HW0.out.2.2.2; omega)).trans HW0.out.2.2.1
      have hzg : w.heap.size + 1 ≤ wg.heap.size := by have := hbg.size; have := HW0.out.2.2.2; omega
      have HGR := Lib.hid hgr
      clear hgr hbg
      cases b with
      | true =>
        go_wp2_with fail
        go_ret
        exact ⟨_, rfl, HGB.out, by unfold RoomE; omega⟩
      | false =>
        have HOK := Lib.hid (show OkN ⟨x0, x1, x2, x3, x4, (xu1, xu2, xu3), x6, (xv1, xv2, xv3), x8, x9⟩ from ⟨by show x1.size ≤ 60; omega, HGR.out rfl⟩)
        go_wp2_with fail
        go_loopw [1, 7] (fun t1 t7 wr => ∃ (j : Nat) (r : Int), j ≤ xv2 ∧ t7 = .int .i64 j ∧ t1 = .int .i64 r ∧ (-1 ≤ r ∧ r ≤ n ∧ (0 ≤ r → 1 + ((f.take j).size : Int) + r = n ∧ (f.take j).all OkN)) ∧ wr.cell? ⟨w.heap.size, 6, none⟩ = some (.slice xv1 xv2 xv3) ∧ Below w.heap.size w wr ∧ w.heap.size + 1 ≤ wr.heap.size) (fun _ t _ => xv2 - (intOf t).toNat)
        case atStart =>
          refine ⟨0, (n : Int) - 1, Nat.zero_le _, rfl, by go_num, ?_, e6, HGB.out, hzg⟩
          simp only [Te.take_zero, Te.size]
          exact ⟨by omega, by omega, fun _ => ⟨by omega, trivial⟩⟩
        case round =>
          obtain ⟨j, r, hj, rfl, rfl, hr, e2, hb, hz⟩ := hrel
          have HB := Lib.hid hb
          have HR := Lib.hid hr
          have hr0 : -1 ≤ r ∧ r ≤ n := ⟨hr.1, hr.2.1⟩
          clear hb hr
          by_cases hjl : j < xv2
          · by_cases hr1 : 0 ≤ r
            · obtain ⟨rn, rfl⟩ := Int.eq_ofNat_of_zero_le hr1
              have hjf : j < f.len := by rw [HQ.out]; exact hjl
              obtain ⟨b, off, cap, hv, _, _, hlt, hC⟩ := H.out.form (by omega)
              dsimp only [slv] at hv
              injection hv with hA hmid hcc
              clear hmid
              subst hA; subst hcc
              obtain ⟨hnd, hch⟩ := teC_at hC j hjf
              have hnd' := NdAt.below (B := w.heap.size) hnd HB.out hlt
              have hch' := hch.up HB.out HB.out.size
              have HST := Lib.hid (f.size_take_step j hjf)
              have HAT := Lib.hid (fun h1 h2 h3 => Te.all_take (P := OkN) hjf h1 h2 h3)
              have hrec := IH.out (f.at_ j).2 (f.at_ j).1 rn wr (by omega) (by omega) hch'
              clear hnd hC hch hch'
              generalize f.at_ j = p at *
              obtain ⟨⟨y0, y1, y2, y3, y4, ⟨yu1, yu2, yu3⟩, y6, ⟨yv1, yv2, yv3⟩, y8, y9⟩, yp⟩ := p
              dsimp only [teVal, slv] at hrec
              obtain ⟨c0, c1, c2, c3, c4, c5, c6, c7, c8⟩ := hnd'
              dsimp only [slv] at c5 c6
              have HREC := Lib.hid hrec
              clear hrec
              have f2 : decide ((0 : Int) ≤ rn) = true := decide_eq_true hr1
              go_wp2_with fail
              refine HREC.out.mono ?_
              rintro e w2 ⟨r2, rfl, hb3, hr2⟩
              have e2' := (hb3.cell (p := ⟨w.heap.size, 6, none⟩) (by show w.heap.size < wr.heap.size; omega)).trans e2
              have HB3 := Lib.hid hb3
              have HR2 := Lib.hid hr2
              clear hb3 hr2 c0 c1 c2 c3 c4 c5 c6 c7 c8
              go_wp2_with fail
              go_roundw
              case rel =>
                have h1 := HR.out
                have h2 := HR2.out
                have h3 := HST.out
                unfold RoomE at h2
                refine ⟨j + 1, r2, by omega, by go_num, rfl, ⟨h2.1, by omega, fun h => ?_⟩, e2', HB.out.trans (HB3.out.mono (by omega)), Nat.le_trans hz HB3.out.size⟩
                obtain ⟨k1, k2, k3⟩ := h2.2.2 h
                obtain ⟨k4, k5⟩ := h1.2.2 hr1
                exact ⟨by rw [h3]; omega, HAT.out k5 k2 k3⟩
              case measure => simp [intOf]; omega
            · have f2 : decide ((0 : Int) ≤ r) = false := decide_eq_false hr1
              go_wp2_with fail
              go_ret
              refine ⟨_, rfl, HB.out, hr0.1, hr0.2, fun h => absurd h (by omega)⟩
          · obtain rfl : j = xv2 := by omega
            have HT : Hid (f.take j = f) := Lib.hid (by rw [← HQ.out]; exact f.take_len)
            go_wp2_with fail
            go_ret
            have h1 := HR.out
            rw [HT.out] at h1
            exact ⟨_, rfl, HB.out, h1.1, h1.2.1, fun h => ⟨(h1.2.2 h).1, HOK.out, (h1.2.2 h).2⟩⟩
set_option maxHeartbeats 1000000 in
/-- Is there more than is asked of? -/
theorem egreat_any (f : Te) (x : Nd) (w : World) (h : TmL w.heap.size w (x, f)) :
    Calls Try.prog 7 #[teVal x] w fun e w' => ∃ b, e = .returned (.bool b) ∧ Below w.heap.size w w' ∧ (b = false → 1 + f.size ≤ 200 ∧ OkN x ∧ f.all OkN) := by
  obtain ⟨x0, x1, x2, x3, x4, ⟨xu1, xu2, xu3⟩, x6, ⟨xv1, xv2, xv3⟩, x8, x9⟩ := x
  obtain ⟨w1, hw1⟩ : ∃ w1, w.alloc (Obj.cells #[.int .i64 x0, .string x1, .int .i64 x2, .int .i64 x3, .int .i64 x4, .slice xu1 xu2 xu3, .slice xv1 xv2 xv3, .int .i64 x8, .int .i64 x9] 29) = w1 := ⟨_, rfl⟩
  have hb1 : Below w.heap.size w w1 := by rw [← hw1]; exact (Below.refl _ _).alloc (Nat.le_refl _) _
  have hs1 := hb1.size
  have hc := eroom_any 60 f ⟨x0, x1, x2, x3, x4, (xu1, xu2, xu3), x6, (xv1, xv2, xv3), x8, x9⟩ 200 w1 (by omega) (by omega) (h.up hb1 hs1)
  rw [← hw1] at hc
  have HC := Lib.hid hc
  have HB1 := Lib.hid hb1
  have HW1 := Lib.hid hw1
  clear h hc hs1 hb1 hw1
  dsimp only [teVal, slv] at HC ⊢
  go_enter Try.func7, Try.ntmps7
  go_wp2_with fail
  refine HC.out.mono ?_
  rintro e w' ⟨r, rfl, hb, hr⟩
  rw [HW1.out] at hb
  have HB := Lib.hid (show Below w.heap.size w w' from HB1.out.trans (hb.mono HB1.out.size))
  have HR := Lib.hid hr
  clear hr hb
  go_wp2_with fail
  go_ret
  refine ⟨_, rfl, HB.out, fun hf => ?_⟩
  have h2 : ¬ r < 0 := by simpa using hf
  obtain ⟨_, _, h3⟩ := HR.out
  obtain ⟨h4, h5, h6⟩ := h3 (by omega)
  exact ⟨by omega, h5, h6⟩
end Go.Proofs.Ytglmhdlkhnlkiaa
/- An argument that is a slice of types, opened. -/
namespace Go.Proofs.Ytglmhdlkhnlkiaa
open Go.RowKit Go.ChangeShapes Go.WideShapes Go.ChangeAt Go.Deep

namespace Fo
/-- Each number is one that an int may be. -/
def wf : Fo → Prop
  | nil => True
  | cons _ n _ ps r => (Lit.int .i64 n).wf = true ∧ ps.wf ∧ r.wf
theorem wf_app {f g : Fo} (h : f.wf) (k : g.wf) : (f.app g).wf := by
  induction f with
  | nil => exact k
  | cons _ _ _ _ r _ ih => exact ⟨h.1, h.2.1, ih h.2.2⟩
end Fo
theorem listOf {α : Type} (P : Nat → α → Prop) (n : Nat) (h : ∀ i, i < n → ∃ t, P i t) : ∃ ts : List α, ts.length = n ∧ ∀ i (hi : i < ts.length), P i ts[i] := by
  induction n with
  | zero => exact ⟨[], rfl, by simp⟩
  | succ n ih =>
    obtain ⟨ts, hl, hP⟩ := ih (fun i hi => h i (by omega))
    obtain ⟨t, ht⟩ := h n (by omega)
    refine ⟨ts ++ [t], by simp [hl], fun i hi => ?_⟩
    rcases Nat.lt_or_ge i ts.length with hlt | hge
    · rw [List.getElem_append_left hlt]; exact hP i hlt
    · have : i = ts.length := by simp at hi; omega
      subst this
      have e : (ts ++ [t])[ts.length] = t := by simp
      rw [e, hl]
      exact ht
def foOf : List (Int × Int × Sl × Fo) → Fo
  | [] => .nil
  | t :: r => .cons t.1 t.2.1 t.2.2.1 t.2.2.2 (foOf r)
theorem foOf_len (ts : List (Int × Int × Sl × Fo)) : (foOf ts).len = ts.length := by
  induction ts with
  | nil => rfl
  | cons t r ih => simp [foOf, Fo.len, ih]
theorem foOf_wf (ts : List (Int × Int × Sl × Fo)) (h : ∀ i (hi : i < ts.length), (Lit.int .i64 ts[i].2.1).wf = true ∧ ts[i].2.2.2.wf) : (foOf ts).wf := by
  induction ts with
  | nil => trivial
  | cons t r ih =>
    have h0 := h 0 (by simp)
    exact ⟨h0.1, h0.2, ih fun i hi => by have := h (i + 1) (by simp; omega); simpa using this⟩
theorem foOf_cells {B : Nat} {w : World} {b : Nat} (ts : List (Int × Int × Sl × Fo)) (off : Nat)
    (h : ∀ i (hi : i < ts.length), w.cell? ⟨b, off + i * 3, none⟩ = some (.int .i64 ts[i].1) ∧ w.cell? ⟨b, off + i * 3 + 1, none⟩ = some (.int .i64 ts[i].2.1) ∧ w.cell? ⟨b, off + i * 3 + 2, none⟩ = some (slv ts[i].2.2.1) ∧ TyV B w ts[i].2.2.2 (slv ts[i].2.2.1)) : TyC B w (foOf ts) b off := by
  induction ts generalizing off with
  | nil => exact tyC_nil
  | cons t r ih =>
    have h0 := h 0 (by simp)
    simp only [Nat.zero_mul, Nat.add_zero, List.getElem_cons_zero] at h0
    refine tyC_cons.2 ⟨h0.1, h0.2.1, h0.2.2.1, h0.2.2.2, ih (off + 3) fun i hi => ?_⟩
    have h1 := h (i + 1) (by simp; omega)
    simp only [List.getElem_cons_succ] at h1
    rw [show off + 3 + i * 3 = off + (i + 1) * 3 by omega]
    exact h1
set_option maxRecDepth 100000 in
theorem types_read {H : Type} {enc : TypeId × Value → H} {W : World} (fuel : Nat) : ∀ (v : Value) (x : DataW H × List MemPlace), DataW.trod enc Try.prog W 0 (fun _ => true) true fuel 22 [v] = some x → ∃ (F : Fo) (u : Sl), v = slv u ∧ TyV W.heap.size W F v ∧ F.wf := by
  induction fuel using Nat.strongRecOn with
  | ind fuel ih =>
    intro v x h
    rcases DataW.trod_slice Try.underlying22 h with ⟨hcs, _⟩ | ⟨a, len, cap, elems, rest, n, hfu, hcs, _, _, hl, hm, hlen, hel, _, _⟩
    · simp at hcs
      subst hcs
      exact ⟨.nil, (none, 0, 0), rfl, tyV_nil.2 ⟨none, 0, rfl⟩, trivial⟩
    · simp at hcs
      subst hcs
      have hC : Try.prog.cellsOf 24 = 3 := by kernel_rfl
      have hI : Try.prog.cellsOf 3 = 1 := by kernel_rfl
      have hS : Try.prog.cellsOf 22 = 1 := by kernel_rfl
      rw [hC] at hel
      have key : ∀ i, i < len → ∃ t : Int × Int × Sl × Fo, W.cell? (a.add (i * 3)) = some (.int .i64 t.1) ∧ W.cell? ((a.add (i * 3)).add 1) = some (.int .i64 t.2.1) ∧ W.cell? ((a.add (i * 3)).add 2) = some (slv t.2.2.1) ∧ TyV W.heap.size W t.2.2.2 (slv t.2.2.1) ∧ (Lit.int .i64 t.2.1).wf = true ∧ t.2.2.2.wf := by
        intro i hil
        have he := hel i hil
        rw [List.getElem?_eq_getElem (by omega)] at he
        obtain ⟨cs', hc, ht'⟩ := Option.bind_eq_some_iff.1 he
        obtain ⟨ys, n', hn', _, hlen2, hyl, hfld⟩ := DataW.trod_struct Try.underlying24 ht'
        rw [hC] at hlen2
        obtain ⟨_, hcl, hat⟩ := World.cells?_some hc
        have q0 : DataW.trod enc Try.prog W 0 (fun _ => true) true n' 3 ((cs'.drop 0).take (Try.prog.cellsOf 3)) = ys[0]? := hfld 0 _ rfl
        have q1 : DataW.trod enc Try.prog W 0 (fun _ => true) true n' 3 ((cs'.drop 1).take (Try.prog.cellsOf 3)) = ys[1]? := hfld 1 _ rfl
        have q2 : DataW.trod enc Try.prog W 0 (fun _ => true) true n' 22 ((cs'.drop 2).take (Try.prog.cellsOf 22)) = ys[2]? := hfld 2 _ rfl
        have hyl' : ys.length = 3 := hyl
        rw [hI, List.getElem?_eq_getElem (by omega)] at q0
        rw [hI, List.getElem?_eq_getElem (by omega)] at q1
        rw [hS, List.getElem?_eq_getElem (by omega)] at q2
        obtain ⟨k0, hk0, _, _⟩ := DataW.trod_int Try.underlying3 q0
        obtain ⟨k1, hk1, _, hw1⟩ := DataW.trod_int Try.underlying3 q1
        match cs', hlen2 with
        | [c0, c1, c2], _ =>
          obtain ⟨F, u, hu, hF, hFw⟩ := ih n' (by omega) c2 _ q2
          simp at hk0 hk1
          subst hk0; subst hk1; subst hu
          refine ⟨(k0, k1, u, F), ?_, ?_, ?_, hF, hw1, hFw⟩
          · have := hat 0 (by omega)
            simpa [Addr.add] using this
          · exact hat 1 (by omega)
          · exact hat 2 (by omega)
      by_cases h0 : len = 0
      · subst h0
        exact ⟨.nil, (some a, 0, cap), rfl, tyV_nil.2 ⟨_, _, rfl⟩, trivial⟩
      · obtain ⟨b, off, spot⟩ := a
        obtain ⟨t0, hc0, _⟩ := key 0 (by omega)
        have hspot : spot = none := by simpa [Addr.add] using World.cell?_spot hc0
        subst hspot
        have hb : b < W.heap.size := by simpa [Addr.add] using World.block_lt_of_cell? _ _ hc0
        obtain ⟨ts, htl, hP⟩ := listOf _ len key
        have hTC : TyC W.heap.size W (foOf ts) b off := foOf_cells ts off fun i hi => by
          have hP2 := hP i hi
          simp only [Addr.add_lit] at hP2
          exact ⟨hP2.1, hP2.2.1, hP2.2.2.1, hP2.2.2.2.1⟩
        have hWF : (foOf ts).wf := foOf_wf ts fun i hi => (hP i hi).2.2.2.2
        cases ts with
        | nil => simp at htl; omega
        | cons t r =>
          refine ⟨foOf (t :: r), (some ⟨b, off, none⟩, len, cap), rfl, tyV_cons.2 ⟨b, off, cap, ?_, ?_, hm, hb, hTC⟩, hWF⟩
          · rw [foOf_len, ← htl]; rfl
          · rw [foOf_len]; simp at htl; omega
theorem ArgTy_open {H : Type} {enc : TypeId × Value → H} {W : World} {v : Value} {d : DataW H} {p : List MemPlace}
    (h : DataW.Trod enc Try.prog W 0 (fun _ => true) true 22 v d p) (hc : v.cells = #[v]) : ∃ F, TyV W.heap.size W F v := by
  obtain ⟨fuel, hf⟩ := h
  rw [hc] at hf
  obtain ⟨F, _, _, hF, _⟩ := types_read fuel v _ hf
  exact ⟨F, hF⟩
end Go.Proofs.Ytglmhdlkhnlkiaa
