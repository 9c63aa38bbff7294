/- Texts of one proof, one behind the other. -/
import Derived.Test.YtglmhdlkhnlkiaaMgTermApplies23
import Derived.Test.YtglmhdlkhnlkiaaMgTermApplies33
/- term.Right. -/
namespace Go.Proofs.Ytglmhdlkhnlkiaa
open Go.RowKit Go.Shelf
attribute [local go_sem] Oper.semAt_some

/-- What is known of a term's nodes. -/
def OkR (x : Nd) : Prop := x.s.size ≤ 60 ∧ x.ty.size < 90000 ∧ x.ty.wf ∧ (Lit.int .i64 x.tn).wf = true
theorem Kq.ofB {O : Nat → Prop} {B C : Nat} {W W' : World} (h : Below W.heap.size W W') (hB : B ≤ W.heap.size) (hO : ∀ k, O k → C ≤ k ∧ k < W.heap.size) : Kq O B W W' := Kq.of_below h hB fun k hk => (hO k hk).2
set_option maxRecDepth 100000 in
set_option maxHeartbeats 4000000 in
theorem eright_any (w : World) (B : Nat) (x : Nd) (ps : Te) (hB : B ≤ w.heap.size) (hL : TmL B w (x, ps)) (hs : ps.size < 1000000) (hP : (one_ x ps).all OkR) :
    Calls Try.prog 9 #[teVal x] w fun e w' => e = .returned (.bool ((one_ x ps).pre.all aloneE)) ∧ Below w.heap.size w w' := by
  have hAL : ∀ (W : World) (t : Tm), Below w.heap.size w W → t ∈ (one_ x ps).pre → Calls Try.prog 29 #[teVal t.1] W fun e w' => e = .returned (.bool (aloneE t)) ∧ Below W.heap.size W w' := fun W t hb ht => by
    have hT : TmL B w t := TeL.pre (f := one_ x ps) ⟨hL, trivial⟩ t ht
    have hp := Te.all_pre hP t ht
    exact rightAlone_any t.1 t.2 W (hT.up (hb.mono hB) (Nat.le_trans hB hb.size)) hp.1.1 hp.1.2.1 hp.1.2.2.1 hp.1.2.2.2
  have HAL := Lib.hid hAL
  clear hAL hP
  obtain ⟨w0, hw0⟩ : ∃ w0, w.alloc (Obj.cells (ndC x).toArray 29) = w0 := ⟨_, rfl⟩
  have hs0 : w0.heap.size = w.heap.size + 1 := by rw [← hw0]; simp
  have hb0 : Below w.heap.size w w0 := by rw [← hw0]; exact (Below.refl _ _).alloc (Nat.le_refl _) _
  have hk0 : w0.heap[w.heap.size]? = some (Obj.cells (ndC x).toArray 29) := by rw [← hw0]; exact heap_alloc_new _ _
  obtain ⟨w1, hw1⟩ : ∃ w1, w0.alloc (Obj.cells #[.bool false] 4) = w1 := ⟨_, rfl⟩
  have hs1 : w1.heap.size = w.heap.size + 1 + 1 := by rw [← hw1]; simp; omega
  have hb1 : Below w.heap.size w w1 := by rw [← hw1]; exact hb0.alloc (by omega) _
  have hk1_0 : w1.heap[w.heap.size]? = some (Obj.cells (ndC x).toArray 29) := by rw [← hw1]; exact (Below.heap_alloc _ _ _ (by omega)).trans hk0
  have hk1_1 : w1.heap[w.heap.size + 1]? = some (Obj.cells #[.bool false] 4) := by rw [← hw1, ← hs0]; exact heap_alloc_new _ _
  obtain ⟨w2, hw2⟩ : ∃ w2, w1.alloc (Obj.cells (ndC x).toArray 29) = w2 := ⟨_, rfl⟩
  have hs2 : w2.heap.size = w.heap.size + 1 + 1 + 1 := by rw [← hw2]; simp; omega
  have hb2 : Below w.heap.size w w2 := by rw [← hw2]; exact hb1.alloc (by omega) _
  have hk2_0 : w2.heap[w.heap.size]? = some (Obj.cells (ndC x).toArray 29) := by rw [← hw2]; exact (Below.heap_alloc _ _ _ (by omega)).trans hk1_0
  have hk2_1 : w2.heap[w.heap.size + 1]? = some (Obj.cells #[.bool false] 4) := by rw [← hw2]; exact (Below.heap_alloc _ _ _ (by omega)).trans hk1_1
  have hk2_2 : w2.heap[w.heap.size + 1 + 1]? = some (Obj.cells (ndC x).toArray 29) := by rw [← hw2, ← hs1]; exact heap_alloc_new _ _
  have HSEQ := Lib.hid (order_seq 3 (by omega) (w.heap.size + 1 + 1) B x ps hs w2 (by omega) hk2_2 (hL.below (hb2.mono hB)))
  have HK0 := Lib.hid hk2_0
  have HK1 := Lib.hid hk2_1
  have HBL := Lib.hid (And.intro hb2 hs2)
  have HL := Lib.hid hL
  obtain ⟨x0, x1, x2, x3, x4, ⟨xu1, xu2, xu3⟩, x6, ⟨xv1, xv2, xv3⟩, x8, x9⟩ := x
  obtain ⟨X, hX⟩ : ∃ X : Nd, (⟨x0, x1, x2, x3, x4, (xu1, xu2, xu3), x6, (xv1, xv2, xv3), x8, x9⟩ : Nd) = X := ⟨_, rfl⟩
  have hm := order_make ⟨x0, x1, x2, x3, x4, (xu1, xu2, xu3), x6, (xv1, xv2, xv3), x8, x9⟩ w1
  rw [← hw1, ← hw0] at hm
  have HM := Lib.hid hm
  have HW := Lib.hid (And.intro hw0 (And.intro hw1 (hw2)))
  dsimp only [ndC, teVal, slv] at HW HM ⊢
  rw [hX] at HSEQ HL HAL ⊢
  have HX := Lib.hid hX
  clear hm hX hL hw0 hs0 hb0 hw1 hs1 hb1 hw2 hs2 hb2 hk0 hk1_0 hk1_1 hk2_0 hk2_1 hk2_2
  refine (callsIn_wide (n := 4)).1 ?_
  refine callsIn_of_wp_marks Try.func9 rfl trivial ?_ rfl
  simp only [Try.ntmps9, List.size_toArray, List.length_cons, List.length_nil, Nat.reduceAdd, Nat.reduceSub, Array.replicate_succ, Array.replicate_zero, List.push_toArray, List.append_toArray, List.nil_append, List.cons_append]
  gi_wp2_with (refine ⟨trivial, ?_⟩; gi_at_call 28; refine (callsIn_wide.2 HM.out).mono ?_; rintro e w' ⟨rfl, rfl⟩)
  rw [HW.out.1, HW.out.2.1, HW.out.2.2]
  obtain ⟨hb2, hs2⟩ := HBL.out
  refine wpIn_rangeS (by omega) (gf := 39) (lb := #[.pointer (some ⟨w.heap.size + 1 + 1, 0, none⟩)]) rfl (enters_of Try.func39 (by kernel_rfl) rfl) HSEQ.out (Below.refl _ _) (by omega) (fun _ => rfl)
    (fun O pre W => pre.all aloneE = true ∧ (Boxed W (w.heap.size + 1) 4 (.bool false) ∧ ¬ O (w.heap.size + 1)) ∧ (Below w.heap.size w W ∧ ∀ k, O k → w.heap.size ≤ k))
    (fun c O pre W => (c = .ret ∧ pre.all aloneE = false) ∧ (Boxed W (w.heap.size + 1) 4 (.bool false) ∧ ¬ O (w.heap.size + 1)) ∧ (Below w.heap.size w W ∧ ∀ k, O k → w.heap.size ≤ k))
    (fun O => OwnFrom.and (ownFrom_pure _ _) (OwnFrom.and (ownS_box fun _ => .bool false) (ownS_below (by omega) (Nat.le_refl _)))) (fun _ O => OwnFrom.and (ownFrom_pure _ _) (OwnFrom.and (ownS_box fun _ => .bool false) (ownS_below (by omega) (Nat.le_refl _))))
    (AbS.and AbS.pure (AbS.and (AbS.box (f := fun _ => .bool false)) (AbS.below (Nat.le_refl _)))) (fun _ => AbS.and AbS.pure (AbS.and (AbS.box (f := fun _ => .bool false)) (AbS.below (Nat.le_refl _))))
    ⟨rfl, ⟨HK1.out, id⟩, hb2, fun _ h => h.elim⟩
    (fun t a' W => ∃ Bx, W.heap[Bx]? = some (Obj.cells (ndC t.1).toArray 29) ∧ a' = { tmps := #[.agg #[.int .i64 x0, .string x1, .int .i64 x2, .int .i64 x3, .int .i64 x4, .slice xu1 xu2 xu3, .slice xv1 xv2 xv3, .int .i64 x8, .int .i64 x9], .pointer (some ⟨w.heap.size, 0, none⟩), .pointer (some ⟨w.heap.size + 1, 0, none⟩), .pointer (some ⟨Bx, 0, none⟩), .agg #[.int .i64 x0, .string x1, .int .i64 x2, .int .i64 x3, .int .i64 x4, .slice xu1 xu2 xu3, .slice xv1 xv2 xv3, .int .i64 x8, .int .i64 x9], .func (.func 39) #[] #[.pointer (some ⟨w.heap.size + 1 + 1, 0, none⟩)], teVal t.1, undef, undef, undef], defers := [] })
    (fun t a' s W W' row hs hg hr => by
      obtain ⟨Bx, hc, ha⟩ := hs
      refine ⟨Bx, (hg.block Bx (Array.getElem?_eq_some_iff.1 hc).1 fun e => ?_).trans hc, ha⟩
      obtain ⟨o, ho, hoc⟩ := (hr Bx e.symm).2
      rw [hc] at ho
      cases ho
      cases hoc) ?assign ?body ?done ?stop
  case assign =>
    rintro l O pre t W K hi hsz hO hK
    obtain ⟨⟨z1, z2, z3, z4, z5, ⟨zu1, zu2, zu3⟩, z7, ⟨zv1, zv2, zv3⟩, z9, z10⟩, zp⟩ := t
    dsimp only [teVal, slv] at hK ⊢
    have HI := Lib.hid hi
    clear hi
    gi_wp2
    obtain ⟨hi1, ⟨hi2, hi3⟩, hi4, hi5⟩ := HI.out
    exact hK _ _ ((KeepsOthers.alloc _ _).from _) (Kq.ofB ((Below.refl _ _).alloc (Nat.le_refl _) _) (by omega) hO) ⟨hi1, ⟨hi2.alloc _, hi3⟩, hi4.alloc (by omega) _, hi5⟩ ⟨W.heap.size, heap_alloc_new W _, rfl⟩
  case body =>
    rintro l O pre t a' W hl ⟨hi1, ⟨hi2, hi3⟩, hi4, hi5⟩ hsz hO ⟨Bx, hc, rfl⟩ ⟨s, hgs⟩
    have htm : t ∈ (one_ X ps).pre := by rw [← hgs]; simp
    have hcall := HAL.out W t hi4 htm
    obtain ⟨b, hb⟩ : ∃ b, aloneE t = b := ⟨_, rfl⟩
    rw [hb] at hcall
    have hap : (pre ++ [t]).all aloneE = b := by rw [List.all_append, hi1]; simp [hb]
    obtain ⟨c0, c1, c2, c3, c4, c5, c6, c7, c8⟩ := NdAt.of_block hc
    obtain ⟨⟨z1, z2, z3, z4, z5, ⟨zu1, zu2, zu3⟩, z7, ⟨zv1, zv2, zv3⟩, z9, z10⟩, zp⟩ := t
    dsimp only [teVal, slv, ndC] at c0 c1 c2 c3 c4 c5 c6 c7 c8 hcall hc ⊢
    simp only [Nat.zero_add] at c0 c1 c2 c3 c4 c5 c6 c7 c8
    have FA := Lib.hid hcall
    have HAP := Lib.hid hap
    have HI := Lib.hid (And.intro hi2 (And.intro hi3 (And.intro hi4 hi5)))
    have HO := Lib.hid hO
    have hsw : w.heap.size ≤ W.heap.size := by omega
    clear hcall hap hb hgs htm hi1 hi2 hi3 hi4 hi5 hc hs2 hb2 hO
    cases b
    · gi_wp2_with (refine ⟨trivial, ?_⟩; gi_at_call 29; refine (CallsIn.inRound l (callsIn_wide.2 FA.out)).mono ?_; rintro e w' ⟨rfl, hbw⟩; have hi2' : Boxed w' (w.heap.size + 1) 4 (.bool false) := (hbw.block _ HI.out.1.lt).trans HI.out.1; have bc := hi2'.cell; have bf := hi2'.frozen; have HB2 := Lib.hid hi2'; have HBW := Lib.hid hbw; clear hi2' hbw)
      obtain ⟨hi2, hi3, hi4, hi5⟩ := HI.out
      have hq : Kq O w.heap.size W w' := Kq.ofB HBW.out (by omega) HO.out
      have hbs : Below w.heap.size w' (w'.setCell ⟨w.heap.size + 1, 0, none⟩ (.bool false)) := (Below.refl _ _).setCell (p := ⟨w.heap.size + 1, 0, none⟩) (by simp) _
      refine ⟨⟨Nat.le_trans HBW.out.size (KeepsOthers.setCell w' _ _).size, fun j o _ hj ho => (KeepsOthers.setCell w' _ _).same j o ((HBW.out.block j (Array.getElem?_eq_some_iff.1 hj).1).trans hj) ho⟩, ⟨⟨rfl, HAP.out⟩, ⟨HB2.out.set _, hi3⟩, hi4.trans (hq.below.trans hbs), hi5⟩, ?_⟩
      exact ⟨(hq.below.mono hB).trans (hbs.mono hB), fun k hk => (Below.heap_setCell _ _ _ _ (fun e => hi3 (by simp only at e; exact e ▸ hk))).trans (hq.own k hk)⟩
    · gi_wp2_with (refine ⟨trivial, ?_⟩; gi_at_call 29; refine (CallsIn.inRound l (callsIn_wide.2 FA.out)).mono ?_; rintro e w' ⟨rfl, hbw⟩)
      obtain ⟨hi2, hi3, hi4, hi5⟩ := HI.out
      exact ⟨⟨hbw.size, fun j o _ hj _ => (hbw.block j (Array.getElem?_eq_some_iff.1 hj).1).trans hj⟩, Kq.ofB hbw (by omega) HO.out, HAP.out, ⟨(hbw.block _ hi2.lt).trans hi2, hi3⟩, hi4.trans (hbw.mono (by omega)), hi5⟩
  case done =>
    rintro D O ys W hD rfl ⟨hi1, ⟨hi2, hi3⟩, hi4, hi5⟩ hK
    have bc := hi2.cell
    have bf := hi2.frozen
    have HB2 := Lib.hid (And.intro hi2 (And.intro hi4 hi1))
    clear hi2 hi1 hi4 hi5 hi3 hb2 hs2
    gi_wp2
    obtain ⟨hi2, hi4, hi1⟩ := HB2.out
    have bx : Boxed ((W.setCell ⟨w.heap.size + 1, 0, none⟩ (.bool true)).putObj D (.deferred none)) (w.heap.size + 1) 4 (.bool true) := (hi2.set _).kept (grownBy_putObj' _ D (.deferred none)) (fun e => by cases e; have := HBL.out.2; omega)
    have hK' : (W.setCell ⟨w.heap.size + 1, 0, none⟩ (.bool true)).heap[D]? = some (.deferred (some [])) := ((grownBy_setCell' W (w.heap.size + 1) (.bool true)).block D (Array.getElem?_eq_some_iff.1 hK).1 (fun e => by cases e; have := HBL.out.2; omega)).trans hK
    refine ⟨by simp, .inl ⟨_, _, rfl, run_takeDeferred hK', ?_⟩⟩
    refine ⟨_, results_box rfl _ _ _ _ rfl (load_bool bx.cell), ?_, ?_⟩
    · rw [hi1]
    · have h1 := hi4.trans ((Below.refl _ _).grown (grownBy_setCell' W (w.heap.size + 1) (.bool true)) hi4.size (fun k e => by cases e; omega))
      exact h1.trans ((Below.refl _ _).grown (grownBy_putObj' _ D (.deferred none)) h1.size (fun k e => by cases e; have := HBL.out.2; omega))
  case stop =>
    rintro D c O pre W hD ⟨hne, s, hsp⟩ ⟨⟨rfl, hi1⟩, ⟨hi2, hi3⟩, hi4, hi5⟩ hK
    gi_wp2
    have bx : Boxed (W.putObj D (.deferred none)) (w.heap.size + 1) 4 (.bool false) := hi2.kept (grownBy_putObj' _ D (.deferred none)) (fun e => by cases e; omega)
    refine ⟨by simp, .inl ⟨_, _, rfl, run_takeDeferred hK, ?_⟩⟩
    refine ⟨_, results_box rfl _ _ _ _ rfl (load_bool bx.cell), ?_, hi4.trans ((Below.refl _ _).grown (grownBy_putObj' _ D (.deferred none)) hi4.size (fun k e => by cases e; omega))⟩
    have : (pre ++ s).all aloneE = false := by rw [List.all_append, hi1]; rfl
    rw [← hsp, this]
end Go.Proofs.Ytglmhdlkhnlkiaa
