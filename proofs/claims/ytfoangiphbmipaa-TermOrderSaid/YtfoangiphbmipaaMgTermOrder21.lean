/- Texts of one proof, one behind the other. -/
import Derived.Test.YtfoangiphbmipaaMgTermOrder13
import Derived.Test.YtfoangiphbmipaaMgTermOrder20
import Derived.Test.YtfoangiphbmipaaMgTermOrder8
import Derived.Test.YtfoangiphbmipaaMgTermOrder2
/- term.Right. -/
namespace Go.Proofs.Ytfoangiphbmipaa
open Go.RowKit Go.Shelf
attribute [local go_sem] Oper.semAt_some

/-- What is known of a term's nodes. -/
def OkR (x : Nd) : Prop := x.s.size ≤ 60 ∧ x.ty.size < 90000 ∧ x.ty.wf ∧ (Lit.int .i64 x.tn).wf = true
theorem Kq.ofB {O : Nat → Prop} {B C : Nat} {W W' : World} (h : Below W.heap.size W W') (hB : B ≤ W.heap.size) (hO : ∀ k, O k → C ≤ k ∧ k < W.heap.size) : Kq O B W W' := Kq.of_below h hB fun k hk => (hO k hk).2
set_option maxRecDepth 100000 in
set_option maxHeartbeats 4000000 in
theorem eright_any (w : World) (B : Nat) (x : Nd) (ps : Te) (hB : B ≤ w.heap.size) (hL : TmL B w (x, ps)) (hs : ps.size < 1000000) (hP : (one_ x ps).all OkR) :
    Calls Try.prog 16 #[teVal x] w fun e w' => e = .returned (.bool ((one_ x ps).pre.all aloneE)) ∧ Below w.heap.size w w' := by
  have hAL : ∀ (W : World) (t : Tm), Below w.heap.size w W → t ∈ (one_ x ps).pre → Calls Try.prog 24 #[teVal t.1] W fun e w' => e = .returned (.bool (aloneE t)) ∧ Below W.heap.size W w' := fun W t hb ht => by
    have hT : TmL B w t := TeL.pre (f := one_ x ps) ⟨hL, trivial⟩ t ht
    have hp := Te.all_pre hP t ht
    exact rightAlone_any t.1 t.2 W (hT.up (hb.mono hB) (Nat.le_trans hB hb.size)) hp.1.1 hp.1.2.1 hp.1.2.2.1 hp.1.2.2.2
  have HAL := Lib.hid hAL
  clear hAL hP
  obtain ⟨w0, hw0⟩ : ∃ w0, w.alloc (Obj.cells (ndC x).toArray 29) = w0 := ⟨_, rfl⟩
  have hs0 : w0.heap.size = w.heap.size + 1 := by rw [← hw0]; simp
  have hb0 : Below w.heap.size w w0 := by rw [← hw0]; exact (Below.refl _ _).alloc (Nat.le_refl _) _
  have hk0 : w0.heap[w.heap.size]? = some (Obj.cells (ndC x).toArray 29) := by rw [← hw0]; exact heap_alloc_new _ _
  obtain ⟨w1, hw1⟩ : ∃ w1, w0.alloc (Obj.cells #[.bool false] 4) = w1 := ⟨_, rfl⟩
  have hs1 : w1.heap.size = w.heap.size + 1 + 1 := by rw [← hw1]; simp; omega
  have hb1 : Below w.heap.size w w1 := by rw [← hw1]; exact hb0.alloc (by omega) _
  have hk1_0 : w1.heap[w.heap.size]? = some (Obj.cells (ndC x).toArray 29) := by rw [← hw1]; exact (Below.heap_alloc _ _ _ (by omega)).trans hk0
  have hk1_1 : w1.heap[w.heap.size + 1]? = some (Obj.cells #[.bool false] 4) := by rw [← hw1, ← hs0]; exact heap_alloc_new _ _
  obtain ⟨w2, hw2⟩ : ∃ w2, w1.alloc (Obj.cells (ndC x).toArray 29) = w2 := ⟨_, rfl⟩
  have hs2 : w2.heap.size = w.heap.size + 1 + 1 + 1 := by rw [← hw2]; simp; omega
  have hb2 : Below w.heap.size w w2 := by rw [← hw2]; exact hb1.alloc (by omega) _
  have hk2_0 : w2.heap[w.heap.size]? = some (Obj.cells (ndC x).toArray 29) := by rw [← hw2]; exact (Below.heap_alloc _ _ _ (by omega)).trans hk1_0
  have hk2_1 : w2.heap[w.heap.size + 1]? = some (Obj.cells #[.bool false] 4) := by rw [← hw2]; exact (Below.heap_alloc _ _ _ (by omega)).trans hk1_1
  have hk2_2 : w2.heap[w.heap.size + 1 + 1]? = some (Obj.cells (ndC x).toArray 29) := by rw [← hw2, ← hs1]; exact heap_alloc_new _ _
  have HSEQ := Lib.hid (order_seq 3 (by omega) (w.heap.size + 1 + 1) B x ps hs w2 (by omega) hk2_2 (hL.below (hb2.mono hB)))
  have HK0 := Lib.hid hk2_0
  have HK1 := Lib.hid hk2_1
  have HBL := Lib.hid (And.intro hb2 hs2)
  have HL := Lib.hid hL
  obtain ⟨x0, x1, x2, x3, x4, ⟨xu1, xu2, xu3⟩, x6, ⟨xv1, xv2, xv3⟩, x8, x9⟩ := x
  obtain ⟨X, hX⟩ : ∃ X : Nd, (⟨x0, x1, x2, x3, x4, (xu1, xu2, xu3), x6, (xv1, xv2, xv3), x8, x9⟩ : Nd) = X := ⟨_, rfl⟩
  have hm := order_make ⟨x0, x1, x2, x3, x4, (xu1, xu2, xu3), x6, (xv1, xv2, xv3), x8, x9⟩ w1
  rw [← hw1, ← hw0] at hm
  have HM := Lib.hid hm
  have HW := Lib.hid (And.intro hw0 (And.intro hw1 (hw2)))
  dsimp only [ndC, teVal, slv] at HW HM ⊢
  rw [hX] at HSEQ HL HAL ⊢
  have HX := Lib.hid hX
  clear hm hX hL hw0 hs0 hb0 hw1 hs1 hb1 hw2 hs2 hb2 hk0 hk1_0 hk1_1 hk2_0 hk2_1 hk2_2
  refine (callsIn_wide (n := 4)).1 ?_
  refine callsIn_of_wp_marks Try.func16 rfl trivial ?_ rfl
  simp only [Try.ntmps16, List.size_toArray, List.length_cons, List.length_nil, Nat.reduceAdd, Nat.reduceSub, Array.replicate_succ, Array.replicate_zero, List.push_toArray, List.append_toArray, List.nil_append, List.cons_append]
  gi_wp2_with (refine ⟨trivial, ?_⟩; gi_at_call 20; refine (callsIn_wide.2 HM.out).mono ?_; rintro e w' ⟨rfl, rfl⟩)
  rw [HW.out.1, HW.out.2.1, HW.out.2.2]
  obtain ⟨hb2, hs2⟩ := HBL.out
  refine wpIn_rangeS (by omega) (gf := 26) (lb := #[.pointer (some ⟨w.heap.size + 1 + 1, 0, none⟩)]) rfl (enters_of Try.func26 (by kernel_rfl) rfl) HSEQ.out (Below.refl _ _) (by omega) (fun _ => rfl)
    (fun O pre W => pre.all aloneE = true ∧ (Boxed W (w.heap.size + 1) 4 (.bool false) ∧ ¬ O (w.heap.size + 1)) ∧ (Below w.heap.size w W ∧ ∀ k, O k → w.heap.size ≤ k))
    (fun c O pre W => (c = .ret ∧ pre.all aloneE = false) ∧ (Boxed W (w.heap.size + 1) 4 (.bool false) ∧ ¬ O (w.heap.size + 1)) ∧ (Below w.heap.size w W ∧ ∀ k, O k → w.heap.size ≤ k))
    (fun O => OwnFrom.and (ownFrom_pure _ _) (OwnFrom.and (ownS_box fun _ => .bool false) (ownS_below (by omega) (Nat.le_refl _)))) (fun _ O => OwnFrom.and (ownFrom_pure _ _) (OwnFrom.and (ownS_box fun _ => .bool false) (ownS_below (by omega) (Nat.le_refl _))))
    (AbS.and AbS.pure (AbS.and (AbS.box (f := fun _ => .bool false)) (AbS.below (Nat.le_refl _)))) (fun _ => AbS.and AbS.pure (AbS.and (AbS.box (f := fun _ => .bool false)) (AbS.below (Nat.le_refl _))))
    ⟨rfl, ⟨HK1.out, id⟩, hb2, fun _ h => h.elim⟩
    (fun t a' W => ∃ Bx, W.heap[Bx]? = some (Obj.cells (ndC t.1).toArray 29) ∧ a' = { tmps := #[.agg #[.int .i64 x0, .string x1, .int .i64 x2, .int .i64 x3, .int .i64 x4, .slice xu1 xu2 xu3, .slice xv1 xv2 xv3, .int .i64 x8, .int .i64 x9], .pointer (some ⟨w.heap.size, 0, none⟩), .pointer (some ⟨w.heap.size + 1, 0, none⟩), .pointer (some ⟨Bx, 0, none⟩), .agg #[.int .i64 x0, .string x1, .int .i64 x2, .int .i64 x3, .int .i64 x4, .slice xu1 xu2 xu3, .slice xv1 xv2 xv3, .int .i64 x8, .int .i64 x9], .func (.func 26) #[] #[.pointer (some ⟨w.heap.size + 1 + 1, 0, none⟩)], teVal t.1, undef, undef, undef], defers := [] })
    (fun t a' s W W' row hs hg hr => by
      obtain ⟨Bx, hc, ha⟩ := hs
      refine ⟨Bx, (hg.block Bx (Array.getElem?_eq_some_iff.1 hc).1 fun e => ?_).trans hc, ha⟩
      obtain ⟨o, ho, hoc⟩ := (hr Bx e.symm).2
      rw [hc] at ho
      cases ho
      cases hoc) ?assign ?body ?done ?stop
  case assign =>
    rintro l O pre t W K hi hsz hO hK
    obtain ⟨⟨z1, z2, z3, z4, z5, ⟨zu1, zu2, zu3⟩, z7, ⟨zv1, zv2, zv3⟩, z9, z10⟩, zp⟩ := t
    dsimp only [teVal, slv] at hK ⊢
    have HI := Lib.hid hi
    clear hi
    gi_wp2
    obtain ⟨hi1, ⟨hi2, hi3⟩, hi4, hi5⟩ := HI.out
    exact hK _ _ ((KeepsOthers.alloc _ _).from _) (Kq.ofB ((Below.refl _ _).alloc (Nat.le_refl _) _) (by omega) hO) ⟨hi1, ⟨hi2.alloc _, hi3⟩, hi4.alloc (by omega) _, hi5⟩ ⟨W.heap.size, heap_alloc_new W _, rfl⟩
  case body =>
    rintro l O pre t a' W hl ⟨hi1, ⟨hi2, hi3⟩, hi4, hi5⟩ hsz hO ⟨Bx, hc, rfl⟩ ⟨s, hgs⟩
    have htm : t ∈ (one_ X ps).pre := by rw [← hgs]; simp
    have hcall := HAL.out W t hi4 htm
    obtain ⟨b, hb⟩ : ∃ b, aloneE t = b := ⟨_, rfl⟩
    rw [hb] at hcall
    have hap : (pre ++ [t]).all aloneE = b := by rw [List.all_append, hi1]; simp [hb]
    obtain ⟨c0, c1, c2, c3, c4, c5, c6, c7, c8⟩ := NdAt.of_block hc
    obtain ⟨⟨z1, z2, z3, z4, z5, ⟨zu1, zu2, zu3⟩, z7, ⟨zv1, zv2, zv3⟩, z9, z10⟩, zp⟩ := t
    dsimp only [teVal, slv, ndC] at c0 c1 c2 c3 c4 c5 c6 c7 c8 hcall hc ⊢
    simp only [Nat.zero_add] at c0 c1 c2 c3 c4 c5 c6 c7 c8
    have FA := Lib.hid hcall
    have HAP := Lib.hid hap
    have HI := Lib.hid (And.intro hi2 (And.intro hi3 (And.intro hi4 hi5)))
    have HO := Lib.hid hO
    have hsw : w.heap.size ≤ W.heap.size := by omega
    clear hcall hap hb hgs htm hi1 hi2 hi3 hi4 hi5 hc hs2 hb2 hO
    cases b
    · gi_wp2_with (refine ⟨trivial, ?_⟩; gi_at_call 24; refine (CallsIn.inRound l (callsIn_wide.2 FA.out)).mono ?_; rintro e w' ⟨rfl, hbw⟩; have hi2' : Boxed w' (w.heap.size + 1) 4 (.bool false) := (hbw.block _ HI.out.1.lt).trans HI.out.1; have bc := hi2'.cell; have bf := hi2'.frozen; have HB2 := Lib.hid hi2'; have HBW := Lib.hid hbw; clear hi2' hbw)
      obtain ⟨hi2, hi3, hi4, hi5⟩ := HI.out
      have hq : Kq O w.heap.size W w' := Kq.ofB HBW.out (by omega) HO.out
      have hbs : Below w.heap.size w' (w'.setCell ⟨w.heap.size + 1, 0, none⟩ (.bool false)) := (Below.refl _ _).setCell (p := ⟨w.heap.size + 1, 0, none⟩) (by simp) _
      refine ⟨⟨Nat.le_trans HBW.out.size (KeepsOthers.setCell w' _ _).size, fun j o _ hj ho => (KeepsOthers.setCell w' _ _).same j o ((HBW.out.block j (Array.getElem?_eq_some_iff.1 hj).1).trans hj) ho⟩, ⟨⟨rfl, HAP.out⟩, ⟨HB2.out.set _, hi3⟩, hi4.trans (hq.below.trans hbs), hi5⟩, ?_⟩
      exact ⟨(hq.below.mono hB).trans (hbs.mono hB), fun k hk => (Below.heap_setCell _ _ _ _ (fun e => hi3 (by simp only at e; exact e ▸ hk))).trans (hq.own k hk)⟩
    · gi_wp2_with (refine ⟨trivial, ?_⟩; gi_at_call 24; refine (CallsIn.inRound l (callsIn_wide.2 FA.out)).mono ?_; rintro e w' ⟨rfl, hbw⟩)
      obtain ⟨hi2, hi3, hi4, hi5⟩ := HI.out
      exact ⟨⟨hbw.size, fun j o _ hj _ => (hbw.block j (Array.getElem?_eq_some_iff.1 hj).1).trans hj⟩, Kq.ofB hbw (by omega) HO.out, HAP.out, ⟨(hbw.block _ hi2.lt).trans hi2, hi3⟩, hi4.trans (hbw.mono (by omega)), hi5⟩
  case done =>
    rintro D O ys W hD rfl ⟨hi1, ⟨hi2, hi3⟩, hi4, hi5⟩ hK
    have bc := hi2.cell
    have bf := hi2.frozen
    have HB2 := Lib.hid (And.intro hi2 (And.intro hi4 hi1))
    clear hi2 hi1 hi4 hi5 hi3 hb2 hs2
    gi_wp2
    obtain ⟨hi2, hi4, hi1⟩ := HB2.out
    have bx : Boxed ((W.setCell ⟨w.heap.size + 1, 0, none⟩ (.bool true)).putObj D (.deferred none)) (w.heap.size + 1) 4 (.bool true) := (hi2.set _).kept (grownBy_putObj' _ D (.deferred none)) (fun e => by cases e; have := HBL.out.2; omega)
    have hK' : (W.setCell ⟨w.heap.size + 1, 0, none⟩ (.bool true)).heap[D]? = some (.deferred (some [])) := ((grownBy_setCell' W (w.heap.size + 1) (.bool true)).block D (Array.getElem?_eq_some_iff.1 hK).1 (fun e => by cases e; have := HBL.out.2; omega)).trans hK
    refine ⟨by simp, .inl ⟨_, _, rfl, run_takeDeferred hK', ?_⟩⟩
    refine ⟨_, results_box rfl _ _ _ _ rfl (load_bool bx.cell), ?_, ?_⟩
    · rw [hi1]
    · have h1 := hi4.trans ((Below.refl _ _).grown (grownBy_setCell' W (w.heap.size + 1) (.bool true)) hi4.size (fun k e => by cases e; omega))
      exact h1.trans ((Below.refl _ _).grown (grownBy_putObj' _ D (.deferred none)) h1.size (fun k e => by cases e; have := HBL.out.2; omega))
  case stop =>
    rintro D c O pre W hD ⟨hne, s, hsp⟩ ⟨⟨rfl, hi1⟩, ⟨hi2, hi3⟩, hi4, hi5⟩ hK
    gi_wp2
    have bx : Boxed (W.putObj D (.deferred none)) (w.heap.size + 1) 4 (.bool false) := hi2.kept (grownBy_putObj' _ D (.deferred none)) (fun e => by cases e; omega)
    refine ⟨by simp, .inl ⟨_, _, rfl, run_takeDeferred hK, ?_⟩⟩
    refine ⟨_, results_box rfl _ _ _ _ rfl (load_bool bx.cell), ?_, hi4.trans ((Below.refl _ _).grown (grownBy_putObj' _ D (.deferred none)) hi4.size (fun k e => by cases e; omega))⟩
    have : (pre ++ s).all aloneE = false := by rw [List.all_append, hi1]; rfl
    rw [← hsp, this]
end Go.Proofs.Ytfoangiphbmipaa
/- term.nestedAlone. -/
namespace Go.Proofs.Ytfoangiphbmipaa
open Go.RowKit

/-- Do the spans of a list of terms lie within one, one behind the other? -/
def Te.nest (ta tb : Int) : Int → Te → Bool
  | _, .nil => true
  | ah, .cons x _ r => !(decide (x.a < max ta ah) || decide (tb < x.b)) && Te.nest ta tb x.b r
def nestE (t : Tm) : Bool := Te.nest t.1.a t.1.b t.1.a t.2
set_option maxHeartbeats 2000000 in
set_option maxRecDepth 100000 in
theorem nestedAlone_any (x : Nd) (f : Te) (w : World) (h : TmL w.heap.size w (x, f)) (hs : f.size < 1000000) :
    Calls Try.prog 22 #[teVal x] w fun e w' => e = .returned (.bool (nestE (x, f))) ∧ Below w.heap.size w w' := by
  obtain ⟨A, c, hv⟩ := h.2.slice
  have H := Lib.hid h.2
  have hll := f.len_le_size
  obtain ⟨q, hq⟩ : ∃ q, f.len = q := ⟨_, rfl⟩
  rw [hq] at hv hll
  have HQ := Lib.hid hq
  obtain ⟨w0, hw0⟩ : ∃ w0, w.alloc (Obj.cells (ndC x).toArray 29) = w0 := ⟨_, rfl⟩
  have hb0 : Below w.heap.size w w0 := by rw [← hw0]; exact (Below.refl _ w).alloc (Nat.le_refl _) _
  have hs0 : w0.heap.size = w.heap.size + 1 := by rw [← hw0]; simp
  have hh0 : w0.heap[w.heap.size]? = some (Obj.cells (ndC x).toArray 29) := by rw [← hw0]; exact heap_alloc_new _ _
  obtain ⟨R, hR⟩ : ∃ R, nestE (x, f) = R := ⟨_, rfl⟩
  rw [hR]
  unfold nestE at hR
  obtain ⟨x0, x1, x2, x3, x4, ⟨xu1, xu2, xu3⟩, x6, ⟨xv1, xv2, xv3⟩, x8, x9⟩ := x
  dsimp only [slv, teVal, ndC] at hv hw0 hh0 hR ⊢
  injection hv with e1 e2 e3
  subst e1; subst e2; subst e3
  have HRR := Lib.hid hR
  have HW := Lib.hid (And.intro hw0 (And.intro hb0 (And.intro hs0 hh0)))
  clear h hq hw0 hb0 hs0 hh0 hR
  go_enter Try.func22, Try.ntmps22
  go_wp2_with fail
  rw [HW.out.1]
  go_loopw [3, 12] (fun t3 t12 wr => ∃ (j : Nat) (ah : Int), j ≤ xv2 ∧ t12 = .int .i64 j ∧ t3 = .int .i64 ah ∧ Te.nest x8 x9 ah (f.drop j) = R ∧ Below (w.heap.size + 1) w0 wr) (fun _ t _ => xv2 - (intOf t).toNat)
  case atStart => exact ⟨0, x8, Nat.zero_le _, rfl, rfl, by rw [Te.drop_zero]; exact HRR.out, Below.refl _ _⟩
  case round =>
    obtain ⟨j, ah, hj, rfl, rfl, hn, hb⟩ := hrel
    obtain ⟨hw0, hb0, hs0, hh0⟩ := HW.out
    have HB : Hid (Below w.heap.size w wr) := Lib.hid (hb0.trans (hb.mono (by omega)))
    have hhr : wr.heap[w.heap.size]? = _ := (hb.block w.heap.size (by omega)).trans hh0
    have b7 : wr.cell? ⟨w.heap.size, 7, none⟩ = some (.int .i64 x8) := cell_of_row wr _ 7 _ _ (0, 0) hhr
    have b8 : wr.cell? ⟨w.heap.size, 8, none⟩ = some (.int .i64 x9) := cell_of_row wr _ 8 _ _ (0, 0) hhr
    have hlw : w.heap.size < wr.heap.size := (Array.getElem?_eq_some_iff.1 hhr).1
    have hzw := hb.size
    clear hw0 hb0 hh0 hhr
    by_cases hjl : j < xv2
    · have hjf : j < f.len := by rw [HQ.out]; exact hjl
      obtain ⟨b, off, cap, hv, _, _, hlt, hC⟩ := H.out.form (by omega)
      dsimp only [slv] at hv
      injection hv with hA hmid hcc
      clear hmid
      subst hA; subst hcc
      obtain ⟨n1, _⟩ := teC_at hC j hjf
      have m1 := NdAt.below (B := w.heap.size) n1 HB.out hlt
      rw [f.drop_step j hjf] at hn
      unfold Te.nest at hn
      clear n1 hC hjf
      generalize f.at_ j = p at *
      obtain ⟨⟨y0, y1, y2, y3, y4, ⟨yu1, yu2, yu3⟩, y6, ⟨yv1, yv2, yv3⟩, y8, y9⟩, pf⟩ := p
      obtain ⟨c0, c1, c2, c3, c4, c5, c6, c7, c8⟩ := m1
      dsimp only [slv] at c5 c6 hn
      have HN := Lib.hid hn
      have HBB := Lib.hid hb
      clear hn hb
      have hal : ∀ o : Obj, Below (w.heap.size + 1) w0 (wr.alloc o) := fun o => HBB.out.alloc (by omega) o
      have HAL := Lib.hid hal
      have HALW := Lib.hid (show ∀ o : Obj, Below w.heap.size w (wr.alloc o) from fun o => HB.out.alloc HB.out.size o)
      clear hal
      go_wp2_with fail
      all_goals
        first
          | (go_ret
             refine ⟨ret_bool ?_, HALW.out _⟩
             rw [← HN.out]
             have : (decide (y8 < max x8 ah) || decide (x9 < y9)) = true := by
               simp only [Bool.or_eq_true, decide_eq_true_eq]
               omega
             rw [this]
             rfl)
          | (refine ⟨⟨j + 1, y9, by omega, by go_num, rfl, ?_, HAL.out _⟩, by simp [intOf]; omega⟩
             rw [← HN.out]
             have : (decide (y8 < max x8 ah) || decide (x9 < y9)) = false := by
               simp only [Bool.or_eq_false_iff, decide_eq_false_iff_not]
               omega
             rw [this]
             rfl)
    · obtain rfl : j = xv2 := by omega
      have HD : Hid (f.drop j = .nil) := Lib.hid (by rw [← HQ.out]; exact f.drop_len)
      have HN := Lib.hid hn
      clear hn hb
      go_wp2_with fail
      go_ret
      exact ⟨ret_bool (by rw [← HN.out, HD.out]; rfl), HB.out⟩
end Go.Proofs.Ytfoangiphbmipaa
/- term.Nested. -/
namespace Go.Proofs.Ytfoangiphbmipaa
open Go.RowKit Go.Shelf
attribute [local go_sem] Oper.semAt_some

set_option maxRecDepth 100000 in
set_option maxHeartbeats 4000000 in
theorem enested_any (w : World) (B : Nat) (x : Nd) (ps : Te) (hB : B ≤ w.heap.size) (hL : TmL B w (x, ps)) (hs : ps.size < 1000000) :
    Calls Try.prog 12 #[teVal x] w fun e w' => e = .returned (.bool ((one_ x ps).pre.all nestE)) ∧ Below w.heap.size w w' := by
  have hAL : ∀ (W : World) (t : Tm), Below w.heap.size w W → t ∈ (one_ x ps).pre → Calls Try.prog 22 #[teVal t.1] W fun e w' => e = .returned (.bool (nestE t)) ∧ Below W.heap.size W w' := fun W t hb ht => by
    have hT : TmL B w t := TeL.pre (f := one_ x ps) ⟨hL, trivial⟩ t ht
    have hz := Te.size_pre (one_ x ps) t ht
    exact nestedAlone_any t.1 t.2 W (hT.up (hb.mono hB) (Nat.le_trans hB hb.size)) (by simp only [Te.size] at hz; omega)
  have HAL := Lib.hid hAL
  clear hAL
  obtain ⟨w0, hw0⟩ : ∃ w0, w.alloc (Obj.cells (ndC x).toArray 29) = w0 := ⟨_, rfl⟩
  have hs0 : w0.heap.size = w.heap.size + 1 := by rw [← hw0]; simp
  have hb0 : Below w.heap.size w w0 := by rw [← hw0]; exact (Below.refl _ _).alloc (Nat.le_refl _) _
  have hk0 : w0.heap[w.heap.size]? = some (Obj.cells (ndC x).toArray 29) := by rw [← hw0]; exact heap_alloc_new _ _
  obtain ⟨w1, hw1⟩ : ∃ w1, w0.alloc (Obj.cells #[.bool false] 4) = w1 := ⟨_, rfl⟩
  have hs1 : w1.heap.size = w.heap.size + 1 + 1 := by rw [← hw1]; simp; omega
  have hb1 : Below w.heap.size w w1 := by rw [← hw1]; exact hb0.alloc (by omega) _
  have hk1_0 : w1.heap[w.heap.size]? = some (Obj.cells (ndC x).toArray 29) := by rw [← hw1]; exact (Below.heap_alloc _ _ _ (by omega)).trans hk0
  have hk1_1 : w1.heap[w.heap.size + 1]? = some (Obj.cells #[.bool false] 4) := by rw [← hw1, ← hs0]; exact heap_alloc_new _ _
  obtain ⟨w2, hw2⟩ : ∃ w2, w1.alloc (Obj.cells (ndC x).toArray 29) = w2 := ⟨_, rfl⟩
  have hs2 : w2.heap.size = w.heap.size + 1 + 1 + 1 := by rw [← hw2]; simp; omega
  have hb2 : Below w.heap.size w w2 := by rw [← hw2]; exact hb1.alloc (by omega) _
  have hk2_0 : w2.heap[w.heap.size]? = some (Obj.cells (ndC x).toArray 29) := by rw [← hw2]; exact (Below.heap_alloc _ _ _ (by omega)).trans hk1_0
  have hk2_1 : w2.heap[w.heap.size + 1]? = some (Obj.cells #[.bool false] 4) := by rw [← hw2]; exact (Below.heap_alloc _ _ _ (by omega)).trans hk1_1
  have hk2_2 : w2.heap[w.heap.size + 1 + 1]? = some (Obj.cells (ndC x).toArray 29) := by rw [← hw2, ← hs1]; exact heap_alloc_new _ _
  have HSEQ := Lib.hid (order_seq 3 (by omega) (w.heap.size + 1 + 1) B x ps hs w2 (by omega) hk2_2 (hL.below (hb2.mono hB)))
  have HK0 := Lib.hid hk2_0
  have HK1 := Lib.hid hk2_1
  have HBL := Lib.hid (And.intro hb2 hs2)
  have HL := Lib.hid hL
  obtain ⟨x0, x1, x2, x3, x4, ⟨xu1, xu2, xu3⟩, x6, ⟨xv1, xv2, xv3⟩, x8, x9⟩ := x
  obtain ⟨X, hX⟩ : ∃ X : Nd, (⟨x0, x1, x2, x3, x4, (xu1, xu2, xu3), x6, (xv1, xv2, xv3), x8, x9⟩ : Nd) = X := ⟨_, rfl⟩
  have hm := order_make ⟨x0, x1, x2, x3, x4, (xu1, xu2, xu3), x6, (xv1, xv2, xv3), x8, x9⟩ w1
  rw [← hw1, ← hw0] at hm
  have HM := Lib.hid hm
  have HW := Lib.hid (And.intro hw0 (And.intro hw1 (hw2)))
  dsimp only [ndC, teVal, slv] at HW HM ⊢
  rw [hX] at HSEQ HL HAL ⊢
  have HX := Lib.hid hX
  clear hm hX hL hw0 hs0 hb0 hw1 hs1 hb1 hw2 hs2 hb2 hk0 hk1_0 hk1_1 hk2_0 hk2_1 hk2_2
  refine (callsIn_wide (n := 4)).1 ?_
  refine callsIn_of_wp_marks Try.func12 rfl trivial ?_ rfl
  simp only [Try.ntmps12, List.size_toArray, List.length_cons, List.length_nil, Nat.reduceAdd, Nat.reduceSub, Array.replicate_succ, Array.replicate_zero, List.push_toArray, List.append_toArray, List.nil_append, List.cons_append]
  gi_wp2_with (refine ⟨trivial, ?_⟩; gi_at_call 20; refine (callsIn_wide.2 HM.out).mono ?_; rintro e w' ⟨rfl, rfl⟩)
  rw [HW.out.1, HW.out.2.1, HW.out.2.2]
  obtain ⟨hb2, hs2⟩ := HBL.out
  refine wpIn_rangeS (by omega) (gf := 26) (lb := #[.pointer (some ⟨w.heap.size + 1 + 1, 0, none⟩)]) rfl (enters_of Try.func26 (by kernel_rfl) rfl) HSEQ.out (Below.refl _ _) (by omega) (fun _ => rfl)
    (fun O pre W => pre.all nestE = true ∧ (Boxed W (w.heap.size + 1) 4 (.bool false) ∧ ¬ O (w.heap.size + 1)) ∧ (Below w.heap.size w W ∧ ∀ k, O k → w.heap.size ≤ k))
    (fun c O pre W => (c = .ret ∧ pre.all nestE = false) ∧ (Boxed W (w.heap.size + 1) 4 (.bool false) ∧ ¬ O (w.heap.size + 1)) ∧ (Below w.heap.size w W ∧ ∀ k, O k → w.heap.size ≤ k))
    (fun O => OwnFrom.and (ownFrom_pure _ _) (OwnFrom.and (ownS_box fun _ => .bool false) (ownS_below (by omega) (Nat.le_refl _)))) (fun _ O => OwnFrom.and (ownFrom_pure _ _) (OwnFrom.and (ownS_box fun _ => .bool false) (ownS_below (by omega) (Nat.le_refl _))))
    (AbS.and AbS.pure (AbS.and (AbS.box (f := fun _ => .bool false)) (AbS.below (Nat.le_refl _)))) (fun _ => AbS.and AbS.pure (AbS.and (AbS.box (f := fun _ => .bool false)) (AbS.below (Nat.le_refl _))))
    ⟨rfl, ⟨HK1.out, id⟩, hb2, fun _ h => h.elim⟩
    (fun t a' W => ∃ Bx, W.heap[Bx]? = some (Obj.cells (ndC t.1).toArray 29) ∧ a' = { tmps := #[.agg #[.int .i64 x0, .string x1, .int .i64 x2, .int .i64 x3, .int .i64 x4, .slice xu1 xu2 xu3, .slice xv1 xv2 xv3, .int .i64 x8, .int .i64 x9], .pointer (some ⟨w.heap.size, 0, none⟩), .pointer (some ⟨w.heap.size + 1, 0, none⟩), .pointer (some ⟨Bx, 0, none⟩), .agg #[.int .i64 x0, .string x1, .int .i64 x2, .int .i64 x3, .int .i64 x4, .slice xu1 xu2 xu3, .slice xv1 xv2 xv3, .int .i64 x8, .int .i64 x9], .func (.func 26) #[] #[.pointer (some ⟨w.heap.size + 1 + 1, 0, none⟩)], teVal t.1, undef, undef, undef], defers := [] })
    (fun t a' s W W' row hs hg hr => by
      obtain ⟨Bx, hc, ha⟩ := hs
      refine ⟨Bx, (hg.block Bx (Array.getElem?_eq_some_iff.1 hc).1 fun e => ?_).trans hc, ha⟩
      obtain ⟨o, ho, hoc⟩ := (hr Bx e.symm).2
      rw [hc] at ho
      cases ho
      cases hoc) ?assign ?body ?done ?stop
  case assign =>
    rintro l O pre t W K hi hsz hO hK
    obtain ⟨⟨z1, z2, z3, z4, z5, ⟨zu1, zu2, zu3⟩, z7, ⟨zv1, zv2, zv3⟩, z9, z10⟩, zp⟩ := t
    dsimp only [teVal, slv] at hK ⊢
    have HI := Lib.hid hi
    clear hi
    gi_wp2
    obtain ⟨hi1, ⟨hi2, hi3⟩, hi4, hi5⟩ := HI.out
    exact hK _ _ ((KeepsOthers.alloc _ _).from _) (Kq.ofB ((Below.refl _ _).alloc (Nat.le_refl _) _) (by omega) hO) ⟨hi1, ⟨hi2.alloc _, hi3⟩, hi4.alloc (by omega) _, hi5⟩ ⟨W.heap.size, heap_alloc_new W _, rfl⟩
  case body =>
    rintro l O pre t a' W hl ⟨hi1, ⟨hi2, hi3⟩, hi4, hi5⟩ hsz hO ⟨Bx, hc, rfl⟩ ⟨s, hgs⟩
    have htm : t ∈ (one_ X ps).pre := by rw [← hgs]; simp
    have hcall := HAL.out W t hi4 htm
    obtain ⟨b, hb⟩ : ∃ b, nestE t = b := ⟨_, rfl⟩
    rw [hb] at hcall
    have hap : (pre ++ [t]).all nestE = b := by rw [List.all_append, hi1]; simp [hb]
    obtain ⟨c0, c1, c2, c3, c4, c5, c6, c7, c8⟩ := NdAt.of_block hc
    obtain ⟨⟨z1, z2, z3, z4, z5, ⟨zu1, zu2, zu3⟩, z7, ⟨zv1, zv2, zv3⟩, z9, z10⟩, zp⟩ := t
    dsimp only [teVal, slv, ndC] at c0 c1 c2 c3 c4 c5 c6 c7 c8 hcall hc ⊢
    simp only [Nat.zero_add] at c0 c1 c2 c3 c4 c5 c6 c7 c8
    have FA := Lib.hid hcall
    have HAP := Lib.hid hap
    have HI := Lib.hid (And.intro hi2 (And.intro hi3 (And.intro hi4 hi5)))
    have HO := Lib.hid hO
    have hsw : w.heap.size ≤ W.heap.size := by omega
    clear hcall hap hb hgs htm hi1 hi2 hi3 hi4 hi5 hc hs2 hb2 hO
    cases b
    · gi_wp2_with (refine ⟨trivial, ?_⟩; gi_at_call 22; refine (CallsIn.inRound l (callsIn_wide.2 FA.out)).mono ?_; rintro e w' ⟨rfl, hbw⟩; have hi2' : Boxed w' (w.heap.size + 1) 4 (.bool false) := (hbw.block _ HI.out.1.lt).trans HI.out.1; have bc := hi2'.cell; have bf := hi2'.frozen; have HB2 := Lib.hid hi2'; have HBW := Lib.hid hbw; clear hi2' hbw)
      obtain ⟨hi2, hi3, hi4, hi5⟩ := HI.out
      have hq : Kq O w.heap.size W w' := Kq.ofB HBW.out (by omega) HO.out
      have hbs : Below w.heap.size w' (w'.setCell ⟨w.heap.size + 1, 0, none⟩ (.bool false)) := (Below.refl _ _).setCell (p := ⟨w.heap.size + 1, 0, none⟩) (by simp) _
      refine ⟨⟨Nat.le_trans HBW.out.size (KeepsOthers.setCell w' _ _).size, fun j o _ hj ho => (KeepsOthers.setCell w' _ _).same j o ((HBW.out.block j (Array.getElem?_eq_some_iff.1 hj).1).trans hj) ho⟩, ⟨⟨rfl, HAP.out⟩, ⟨HB2.out.set _, hi3⟩, hi4.trans (hq.below.trans hbs), hi5⟩, ?_⟩
      exact ⟨(hq.below.mono hB).trans (hbs.mono hB), fun k hk => (Below.heap_setCell _ _ _ _ (fun e => hi3 (by simp only at e; exact e ▸ hk))).trans (hq.own k hk)⟩
    · gi_wp2_with (refine ⟨trivial, ?_⟩; gi_at_call 22; refine (CallsIn.inRound l (callsIn_wide.2 FA.out)).mono ?_; rintro e w' ⟨rfl, hbw⟩)
      obtain ⟨hi2, hi3, hi4, hi5⟩ := HI.out
      exact ⟨⟨hbw.size, fun j o _ hj _ => (hbw.block j (Array.getElem?_eq_some_iff.1 hj).1).trans hj⟩, Kq.ofB hbw (by omega) HO.out, HAP.out, ⟨(hbw.block _ hi2.lt).trans hi2, hi3⟩, hi4.trans (hbw.mono (by omega)), hi5⟩
  case done =>
    rintro D O ys W hD rfl ⟨hi1, ⟨hi2, hi3⟩, hi4, hi5⟩ hK
    have bc := hi2.cell
    have bf := hi2.frozen
    have HB2 := Lib.hid (And.intro hi2 (And.intro hi4 hi1))
    clear hi2 hi1 hi4 hi5 hi3 hb2 hs2
    gi_wp2
    obtain ⟨hi2, hi4, hi1⟩ := HB2.out
    have bx : Boxed ((W.setCell ⟨w.heap.size + 1, 0, none⟩ (.bool true)).putObj D (.deferred none)) (w.heap.size + 1) 4 (.bool true) := (hi2.set _).kept (grownBy_putObj' _ D (.deferred none)) (fun e => by cases e; have := HBL.out.2; omega)
    have hK' : (W.setCell ⟨w.heap.size + 1, 0, none⟩ (.bool true)).heap[D]? = some (.deferred (some [])) := ((grownBy_setCell' W (w.heap.size + 1) (.bool true)).block D (Array.getElem?_eq_some_iff.1 hK).1 (fun e => by cases e; have := HBL.out.2; omega)).trans hK
    refine ⟨by simp, .inl ⟨_, _, rfl, run_takeDeferred hK', ?_⟩⟩
    refine ⟨_, results_box rfl _ _ _ _ rfl (load_bool bx.cell), ?_, ?_⟩
    · rw [hi1]
    · have h1 := hi4.trans ((Below.refl _ _).grown (grownBy_setCell' W (w.heap.size + 1) (.bool true)) hi4.size (fun k e => by cases e; omega))
      exact h1.trans ((Below.refl _ _).grown (grownBy_putObj' _ D (.deferred none)) h1.size (fun k e => by cases e; have := HBL.out.2; omega))
  case stop =>
    rintro D c O pre W hD ⟨hne, s, hsp⟩ ⟨⟨rfl, hi1⟩, ⟨hi2, hi3⟩, hi4, hi5⟩ hK
    gi_wp2
    have bx : Boxed (W.putObj D (.deferred none)) (w.heap.size + 1) 4 (.bool false) := hi2.kept (grownBy_putObj' _ D (.deferred none)) (fun e => by cases e; omega)
    refine ⟨by simp, .inl ⟨_, _, rfl, run_takeDeferred hK, ?_⟩⟩
    refine ⟨_, results_box rfl _ _ _ _ rfl (load_bool bx.cell), ?_, hi4.trans ((Below.refl _ _).grown (grownBy_putObj' _ D (.deferred none)) hi4.size (fun k e => by cases e; omega))⟩
    have : (pre ++ s).all nestE = false := by rw [List.all_append, hi1]; rfl
    rw [← hsp, this]
end Go.Proofs.Ytfoangiphbmipaa
