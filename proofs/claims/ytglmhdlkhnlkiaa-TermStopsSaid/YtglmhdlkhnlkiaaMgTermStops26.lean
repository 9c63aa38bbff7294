/- Texts of one proof, one behind the other. -/
import Derived.Test.YtglmhdlkhnlkiaaMgTermStops16
import Derived.Test.YtglmhdlkhnlkiaaMgTermStops25
import Derived.Test.YtglmhdlkhnlkiaaMgTermStops10
import Derived.Test.YtglmhdlkhnlkiaaMgTermStops18
/- term.Right. -/
namespace Go.Proofs.Ytglmhdlkhnlkiaa
open Go.RowKit Go.Shelf
attribute [local go_sem] Oper.semAt_some

/-- What is known of a term's nodes. -/
def OkR (x : Nd) : Prop := x.s.size ≤ 60 ∧ x.ty.size < 90000 ∧ x.ty.wf ∧ (Lit.int .i64 x.tn).wf = true
theorem Kq.ofB {O : Nat → Prop} {B C : Nat} {W W' : World} (h : Below W.heap.size W W') (hB : B ≤ W.heap.size) (hO : ∀ k, O k → C ≤ k ∧ k < W.heap.size) : Kq O B W W' := Kq.of_below h hB fun k hk => (hO k hk).2
set_option maxRecDepth 100000 in
set_option maxHeartbeats 4000000 in
theorem eright_any (w : World) (B : Nat) (x : Nd) (ps : Te) (hB : B ≤ w.heap.size) (hL : TmL B w (x, ps)) (hs : ps.size < 1000000) (hP : (one_ x ps).all OkR) :
    Calls Try.prog 9 #[teVal x] w fun e w' => e = .returned (.bool ((one_ x ps).pre.all aloneE)) ∧ Below w.heap.size w w' := by
  have hAL : ∀ (W : World) (t : Tm), Below w.heap.size w W → t ∈ (one_ x ps).pre → Calls Try.prog 29 #[teVal t.1] W fun e w' => e = .returned (.bool (aloneE t)) ∧ Below W.heap.size W w' := fun W t hb ht => by
    have hT : TmL B w t := TeL.pre (f := one_ x ps) ⟨hL, trivial⟩ t ht
    have hp := Te.all_pre hP t ht
    exact rightAlone_any t.1 t.2 W (hT.up (hb.mono hB) (Nat.le_trans hB hb.size)) hp.1.1 hp.1.2.1 hp.1.2.2.1 hp.1.2.2.2
  have HAL := Lib.hid hAL
  clear hAL hP
  obtain ⟨w0, hw0⟩ : ∃ w0, w.alloc (Obj.cells (ndC x).toArray 29) = w0 := ⟨_, rfl⟩
  have hs0 : w0.heap.size = w.heap.size + 1 := by rw [← hw0]; simp
  have hb0 : Below w.heap.size w w0 := by rw [← hw0]; exact (Below.refl _ _).alloc (Nat.le_refl _) _
  have hk0 : w0.heap[w.heap.size]? = some (Obj.cells (ndC x).toArray 29) := by rw [← hw0]; exact heap_alloc_new _ _
  obtain ⟨w1, hw1⟩ : ∃ w1, w0.alloc (Obj.cells #[.bool false] 4) = w1 := ⟨_, rfl⟩
  have hs1 : w1.heap.size = w.heap.size + 1 + 1 := by rw [← hw1]; simp; omega
  have hb1 : Below w.heap.size w w1 := by rw [← hw1]; exact hb0.alloc (by omega) _
  have hk1_0 : w1.heap[w.heap.size]? = some (Obj.cells (ndC x).toArray 29) := by rw [← hw1]; exact (Below.heap_alloc _ _ _ (by omega)).trans hk0
  have hk1_1 : w1.heap[w.heap.size + 1]? = some (Obj.cells #[.bool false] 4) := by rw [← hw1, ← hs0]; exact heap_alloc_new _ _
  obtain ⟨w2, hw2⟩ : ∃ w2, w1.alloc (Obj.cells (ndC x).toArray 29) = w2 := ⟨_, rfl⟩
  have hs2 : w2.heap.size = w.heap.size + 1 + 1 + 1 := by rw [← hw2]; simp; omega
  have hb2 : Below w.heap.size w w2 := by rw [← hw2]; exact hb1.alloc (by omega) _
  have hk2_0 : w2.heap[w.heap.size]? = some (Obj.cells (ndC x).toArray 29) := by rw [← hw2]; exact (Below.heap_alloc _ _ _ (by omega)).trans hk1_0
  have hk2_1 : w2.heap[w.heap.size + 1]? = some (Obj.cells #[.bool false] 4) := by rw [← hw2]; exact (Below.heap_alloc _ _ _ (by omega)).trans hk1_1
  have hk2_2 : w2.heap[w.heap.size + 1 + 1]? = some (Obj.cells (ndC x).toArray 29) := by rw [← hw2, ← hs1]; exact heap_alloc_new _ _
  have HSEQ := Lib.hid (order_seq 3 (by omega) (w.heap.size + 1 + 1) B x ps hs w2 (by omega) hk2_2 (hL.below (hb2.mono hB)))
  have HK0 := Lib.hid hk2_0
  have HK1 := Lib.hid hk2_1
  have HBL := Lib.hid (And.intro hb2 hs2)
  have HL := Lib.hid hL
  obtain ⟨x0, x1, x2, x3, x4, ⟨xu1, xu2, xu3⟩, x6, ⟨xv1, xv2, xv3⟩, x8, x9⟩ := x
  obtain ⟨X, hX⟩ : ∃ X : Nd, (⟨x0, x1, x2, x3, x4, (xu1, xu2, xu3), x6, (xv1, xv2, xv3), x8, x9⟩ : Nd) = X := ⟨_, rfl⟩
  have hm := order_make ⟨x0, x1, x2, x3, x4, (xu1, xu2, xu3), x6, (xv1, xv2, xv3), x8, x9⟩ w1
  rw [← hw1, ← hw0] at hm
  have HM := Lib.hid hm
  have HW := Lib.hid (And.intro hw0 (And.intro hw1 (hw2)))
  dsimp only [ndC, teVal, slv] at HW HM ⊢
  rw [hX] at HSEQ HL HAL ⊢
  have HX := Lib.hid hX
  clear hm hX hL hw0 hs0 hb0 hw1 hs1 hb1 hw2 hs2 hb2 hk0 hk1_0 hk1_1 hk2_0 hk2_1 hk2_2
  refine (callsIn_wide (n := 4)).1 ?_
  refine callsIn_of_wp_marks Try.func9 rfl trivial ?_ rfl
  simp only [Try.ntmps9, List.size_toArray, List.length_cons, List.length_nil, Nat.reduceAdd, Nat.reduceSub, Array.replicate_succ, Array.replicate_zero, List.push_toArray, List.append_toArray, List.nil_append, List.cons_append]
  gi_wp2_with (refine ⟨trivial, ?_⟩; gi_at_call 28; refine (callsIn_wide.2 HM.out).mono ?_; rintro e w' ⟨rfl, rfl⟩)
  rw [HW.out.1, HW.out.2.1, HW.out.2.2]
  obtain ⟨hb2, hs2⟩ := HBL.out
  refine wpIn_rangeS (by omega) (gf := 39) (lb := #[.pointer (some ⟨w.heap.size + 1 + 1, 0, none⟩)]) rfl (enters_of Try.func39 (by kernel_rfl) rfl) HSEQ.out (Below.refl _ _) (by omega) (fun _ => rfl)
    (fun O pre W => pre.all aloneE = true ∧ (Boxed W (w.heap.size + 1) 4 (.bool false) ∧ ¬ O (w.heap.size + 1)) ∧ (Below w.heap.size w W ∧ ∀ k, O k → w.heap.size ≤ k))
    (fun c O pre W => (c = .ret ∧ pre.all aloneE = false) ∧ (Boxed W (w.heap.size + 1) 4 (.bool false) ∧ ¬ O (w.heap.size + 1)) ∧ (Below w.heap.size w W ∧ ∀ k, O k → w.heap.size ≤ k))
    (fun O => OwnFrom.and (ownFrom_pure _ _) (OwnFrom.and (ownS_box fun _ => .bool false) (ownS_below (by omega) (Nat.le_refl _)))) (fun _ O => OwnFrom.and (ownFrom_pure _ _) (OwnFrom.and (ownS_box fun _ => .bool false) (ownS_below (by omega) (Nat.le_refl _))))
    (AbS.and AbS.pure (AbS.and (AbS.box (f := fun _ => .bool false)) (AbS.below (Nat.le_refl _)))) (fun _ => AbS.and AbS.pure (AbS.and (AbS.box (f := fun _ => .bool false)) (AbS.below (Nat.le_refl _))))
    ⟨rfl, ⟨HK1.out, id⟩, hb2, fun _ h => h.elim⟩
    (fun t a' W => ∃ Bx, W.heap[Bx]? = some (Obj.cells (ndC t.1).toArray 29) ∧ a' = { tmps := #[.agg #[.int .i64 x0, .string x1, .int .i64 x2, .int .i64 x3, .int .i64 x4, .slice xu1 xu2 xu3, .slice xv1 xv2 xv3, .int .i64 x8, .int .i64 x9], .pointer (some ⟨w.heap.size, 0, none⟩), .pointer (some ⟨w.heap.size + 1, 0, none⟩), .pointer (some ⟨Bx, 0, none⟩), .agg #[.int .i64 x0, .string x1, .int .i64 x2, .int .i64 x3, .int .i64 x4, .slice xu1 xu2 xu3, .slice xv1 xv2 xv3, .int .i64 x8, .int .i64 x9], .func (.func 39) #[] #[.pointer (some ⟨w.heap.size + 1 + 1, 0, none⟩)], teVal t.1, undef, undef, undef], defers := [] })
    (fun t a' s W W' row hs hg hr => by
      obtain ⟨Bx, hc, ha⟩ := hs
      refine ⟨Bx, (hg.block Bx (Array.getElem?_eq_some_iff.1 hc).1 fun e => ?_).trans hc, ha⟩
      obtain ⟨o, ho, hoc⟩ := (hr Bx e.symm).2
      rw [hc] at ho
      cases ho
      cases hoc) ?assign ?body ?done ?stop
  case assign =>
    rintro l O pre t W K hi hsz hO hK
    obtain ⟨⟨z1, z2, z3, z4, z5, ⟨zu1, zu2, zu3⟩, z7, ⟨zv1, zv2, zv3⟩, z9, z10⟩, zp⟩ := t
    dsimp only [teVal, slv] at hK ⊢
    have HI := Lib.hid hi
    clear hi
    gi_wp2
    obtain ⟨hi1, ⟨hi2, hi3⟩, hi4, hi5⟩ := HI.out
    exact hK _ _ ((KeepsOthers.alloc _ _).from _) (Kq.ofB ((Below.refl _ _).alloc (Nat.le_refl _) _) (by omega) hO) ⟨hi1, ⟨hi2.alloc _, hi3⟩, hi4.alloc (by omega) _, hi5⟩ ⟨W.heap.size, heap_alloc_new W _, rfl⟩
  case body =>
    rintro l O pre t a' W hl ⟨hi1, ⟨hi2, hi3⟩, hi4, hi5⟩ hsz hO ⟨Bx, hc, rfl⟩ ⟨s, hgs⟩
    have htm : t ∈ (one_ X ps).pre := by rw [← hgs]; simp
    have hcall := HAL.out W t hi4 htm
    obtain ⟨b, hb⟩ : ∃ b, aloneE t = b := ⟨_, rfl⟩
    rw [hb] at hcall
    have hap : (pre ++ [t]).all aloneE = b := by rw [List.all_append, hi1]; simp [hb]
    obtain ⟨c0, c1, c2, c3, c4, c5, c6, c7, c8⟩ := NdAt.of_block hc
    obtain ⟨⟨z1, z2, z3, z4, z5, ⟨zu1, zu2, zu3⟩, z7, ⟨zv1, zv2, zv3⟩, z9, z10⟩, zp⟩ := t
    dsimp only [teVal, slv, ndC] at c0 c1 c2 c3 c4 c5 c6 c7 c8 hcall hc ⊢
    simp only [Nat.zero_add] at c0 c1 c2 c3 c4 c5 c6 c7 c8
    have FA := Lib.hid hcall
    have HAP := Lib.hid hap
    have HI := Lib.hid (And.intro hi2 (And.intro hi3 (And.intro hi4 hi5)))
    have HO := Lib.hid hO
    have hsw : w.heap.size ≤ W.heap.size := by omega
    clear hcall hap hb hgs htm hi1 hi2 hi3 hi4 hi5 hc hs2 hb2 hO
    cases b
    · gi_wp2_with (refine ⟨trivial, ?_⟩; gi_at_call 29; refine (CallsIn.inRound l (callsIn_wide.2 FA.out)).mono ?_; rintro e w' ⟨rfl, hbw⟩; have hi2' : Boxed w' (w.heap.size + 1) 4 (.bool false) := (hbw.block _ HI.out.1.lt).trans HI.out.1; have bc := hi2'.cell; have bf := hi2'.frozen; have HB2 := Lib.hid hi2'; have HBW := Lib.hid hbw; clear hi2' hbw)
      obtain ⟨hi2, hi3, hi4, hi5⟩ := HI.out
      have hq : Kq O w.heap.size W w' := Kq.ofB HBW.out (by omega) HO.out
      have hbs : Below w.heap.size w' (w'.setCell ⟨w.heap.size + 1, 0, none⟩ (.bool false)) := (Below.refl _ _).setCell (p := ⟨w.heap.size + 1, 0, none⟩) (by simp) _
      refine ⟨⟨Nat.le_trans HBW.out.size (KeepsOthers.setCell w' _ _).size, fun j o _ hj ho => (KeepsOthers.setCell w' _ _).same j o ((HBW.out.block j (Array.getElem?_eq_some_iff.1 hj).1).trans hj) ho⟩, ⟨⟨rfl, HAP.out⟩, ⟨HB2.out.set _, hi3⟩, hi4.trans (hq.below.trans hbs), hi5⟩, ?_⟩
      exact ⟨(hq.below.mono hB).trans (hbs.mono hB), fun k hk => (Below.heap_setCell _ _ _ _ (fun e => hi3 (by simp only at e; exact e ▸ hk))).trans (hq.own k hk)⟩
    · gi_wp2_with (refine ⟨trivial, ?_⟩; gi_at_call 29; refine (CallsIn.inRound l (callsIn_wide.2 FA.out)).mono ?_; rintro e w' ⟨rfl, hbw⟩)
      obtain ⟨hi2, hi3, hi4, hi5⟩ := HI.out
      exact ⟨⟨hbw.size, fun j o _ hj _ => (hbw.block j (Array.getElem?_eq_some_iff.1 hj).1).trans hj⟩, Kq.ofB hbw (by omega) HO.out, HAP.out, ⟨(hbw.block _ hi2.lt).trans hi2, hi3⟩, hi4.trans (hbw.mono (by omega)), hi5⟩
  case done =>
    rintro D O ys W hD rfl ⟨hi1, ⟨hi2, hi3⟩, hi4, hi5⟩ hK
    have bc := hi2.cell
    have bf := hi2.frozen
    have HB2 := Lib.hid (And.intro hi2 (And.intro hi4 hi1))
    clear hi2 hi1 hi4 hi5 hi3 hb2 hs2
    gi_wp2
    obtain ⟨hi2, hi4, hi1⟩ := HB2.out
    have bx : Boxed ((W.setCell ⟨w.heap.size + 1, 0, none⟩ (.bool true)).putObj D (.deferred none)) (w.heap.size + 1) 4 (.bool true) := (hi2.set _).kept (grownBy_putObj' _ D (.deferred none)) (fun e => by cases e; have := HBL.out.2; omega)
    have hK' : (W.setCell ⟨w.heap.size + 1, 0, none⟩ (.bool true)).heap[D]? = some (.deferred (some [])) := ((grownBy_setCell' W (w.heap.size + 1) (.bool true)).block D (Array.getElem?_eq_some_iff.1 hK).1 (fun e => by cases e; have := HBL.out.2; omega)).trans hK
    refine ⟨by simp, .inl ⟨_, _, rfl, run_takeDeferred hK', ?_⟩⟩
    refine ⟨_, results_box rfl _ _ _ _ rfl (load_bool bx.cell), ?_, ?_⟩
    · rw [hi1]
    · have h1 := hi4.trans ((Below.refl _ _).grown (grownBy_setCell' W (w.heap.size + 1) (.bool true)) hi4.size (fun k e => by cases e; omega))
      exact h1.trans ((Below.refl _ _).grown (grownBy_putObj' _ D (.deferred none)) h1.size (fun k e => by cases e; have := HBL.out.2; omega))
  case stop =>
    rintro D c O pre W hD ⟨hne, s, hsp⟩ ⟨⟨rfl, hi1⟩, ⟨hi2, hi3⟩, hi4, hi5⟩ hK
    gi_wp2
    have bx : Boxed (W.putObj D (.deferred none)) (w.heap.size + 1) 4 (.bool false) := hi2.kept (grownBy_putObj' _ D (.deferred none)) (fun e => by cases e; omega)
    refine ⟨by simp, .inl ⟨_, _, rfl, run_takeDeferred hK, ?_⟩⟩
    refine ⟨_, results_box rfl _ _ _ _ rfl (load_bool bx.cell), ?_, hi4.trans ((Below.refl _ _).grown (grownBy_putObj' _ D (.deferred none)) hi4.size (fun k e => by cases e; omega))⟩
    have : (pre ++ s).all aloneE = false := by rw [List.all_append, hi1]; rfl
    rw [← hsp, this]
end Go.Proofs.Ytglmhdlkhnlkiaa
/- The answer's Equal of terms; law05's example. -/
namespace Go.Proofs.Ytglmhdlkhnlkiaa
open Go.RowKit Go.Shelf
attribute [local go_sem] Oper.semAt_some

set_option maxHeartbeats 2000000 in
set_option maxRecDepth 100000 in
theorem requal_any (x y : Nd) (f g : Te) (w : World) (hs : f.size ≤ 1000000) (hs' : g.size ≤ 1000000) (h : TmL w.heap.size w (x, f)) (h' : TmL w.heap.size w (y, g))
    (ht : x.ty.size ≤ 1000000) (ht' : y.ty.size ≤ 1000000) (ha : f.all (fun x => x.ty.size ≤ 1000000)) (ha' : g.all (fun x => x.ty.size ≤ 1000000)) :
    Calls Try.prog 18 #[teVal x, teVal y] w fun e w' => e = .returned (.bool (ndE true x y && f.same true g)) ∧ Below w.heap.size w w' := by
  obtain ⟨w1, hw1⟩ : ∃ w1, (w.alloc (Obj.cells (ndC x).toArray 29)).alloc (Obj.cells (ndC y).toArray 29) = w1 := ⟨_, rfl⟩
  have hb1 : Below w.heap.size w w1 := by rw [← hw1]; exact ((Below.refl _ _).alloc (Nat.le_refl _) _).alloc (by simp) _
  have hc := rtesame_any true (f.size + 1) f g x y w1 (by omega) hs hs' (h.up hb1 hb1.size) (h'.up hb1 hb1.size) ht ht' ha ha'
  obtain ⟨R, hR⟩ : ∃ R, (ndE true x y && f.same true g) = R := ⟨_, rfl⟩
  rw [hR] at hc ⊢
  rw [← hw1] at hc
  have HW := Lib.hid (And.intro hw1 hb1)
  obtain ⟨x0, x1, x2, x3, x4, ⟨xu1, xu2, xu3⟩, x6, ⟨xv1, xv2, xv3⟩, x8, x9⟩ := x
  obtain ⟨y0, y1, y2, y3, y4, ⟨yu1, yu2, yu3⟩, y6, ⟨yv1, yv2, yv3⟩, y8, y9⟩ := y
  dsimp only [teVal, slv, ndC] at hc HW ⊢
  have HC := Lib.hid hc
  clear hc h h' ht ht' ha ha' hR hw1 hb1
  go_enter Try.func18, Try.ntmps18
  go_wp2_with fail
  refine HC.out.mono ?_
  rintro e w2 ⟨rfl, hb2⟩
  rw [HW.out.1] at hb2
  have HB := Lib.hid (HW.out.2.trans (hb2.mono HW.out.2.size))
  clear hb2
  go_wp2_with fail
  go_ret
  exact ⟨rfl, HB.out⟩
theorem img_nil {g : Fo} (h : Img idn .nil g) : g = .nil := by cases g <;> simp_all [Img]
theorem timg_nil {g : Te} (h : TImg .nil g) : g = .nil := by cases g <;> simp_all [TImg]
def fN : Nd := ⟨1, ⟨#[102]⟩, 0, 0, 0, (none, 0, 0), .nil, (none, 0, 0), 0, 0⟩
def xN : Nd := ⟨1, ⟨#[120]⟩, 0, 0, 0, (none, 0, 0), .nil, (none, 0, 0), 0, 0⟩
/-- The example's terms. -/
theorem exam {g : Te} (h : TImg (.cons fN .nil (.cons xN .nil .nil)) g) : ∃ tu u tu2 u2 : Sl, g = .cons { fN with tu := tu, u := u } .nil (.cons { xN with tu := tu2, u := u2 } .nil .nil) := by
  cases g with
  | nil => simp [TImg] at h
  | cons y p r =>
    simp only [TImg] at h
    obtain ⟨⟨h1, h2, h3, h4, h5, h6, h7, h8⟩, hp, hr⟩ := h
    obtain rfl := timg_nil hp
    cases r with
    | nil => simp [TImg] at hr
    | cons y2 p2 r2 =>
      simp only [TImg] at hr
      obtain ⟨⟨k1, k2, k3, k4, k5, k6, k7, k8⟩, hp2, hr2⟩ := hr
      obtain rfl := timg_nil hp2
      obtain rfl := timg_nil hr2
      have e6 := img_nil h6
      have e6' := img_nil k6
      obtain ⟨a0, a1, a2, a3, a4, a5, a6, a7, a8, a9⟩ := y
      obtain ⟨b0, b1, b2, b3, b4, b5, b6, b7, b8, b9⟩ := y2
      simp only [fN, xN] at h1 h2 h3 h4 h5 h7 h8 k1 k2 k3 k4 k5 k7 k8 e6 e6'
      subst h1; subst h2; subst h3; subst h4; subst h5; subst h7; subst h8; subst k1; subst k2; subst k3; subst k4; subst k5; subst k7; subst k8; subst e6; subst e6'
      exact ⟨a5, a7, b5, b7, rfl⟩
theorem exam_all (tu u t1 s1 t2 s2 : Sl) : (one_ ⟨5, ⟨#[]⟩, 0, 0, 0, tu, .nil, u, 0, 0⟩ (.cons { fN with tu := t1, u := s1 } .nil (.cons { xN with tu := t2, u := s2 } .nil .nil))).pre.all aloneE = true := by
  have h1 : nameB (bs (⟨#[102]⟩ : ByteArray)) = true := by decide +kernel
  have h2 : nameB (bs (⟨#[120]⟩ : ByteArray)) = true := by decide +kernel
  simp [Te.pre, aloneE, nmB, nmd, nuB, tyB, paB, fN, xN, h1, h2, Te.len, Fo.same]
set_option maxHeartbeats 4000000 in
set_option maxRecDepth 100000 in
/-- law05's example. -/
theorem awake05_any (w : World) : Calls Try.prog 8 #[] w fun e w' => e = .returned (.bool true) ∧ Below w.heap.size w w' := by
  obtain ⟨w1, hw1⟩ : ∃ w1, w.alloc (Obj.cells #[.int .i64 1, .string ⟨#[102]⟩, .int .i64 0, .int .i64 0, .int .i64 0, .slice none 0 0, .slice none 0 0, .int .i64 0, .int .i64 0, .int .i64 1, .string ⟨#[120]⟩, .int .i64 0, .int .i64 0, .int .i64 0, .slice none 0 0, .slice none 0 0, .int .i64 0, .int .i64 0] 29) = w1 := ⟨_, rfl⟩
  have hb1 : Below w.heap.size w w1 := by rw [← hw1]; exact (Below.refl _ _).alloc (Nat.le_refl _) _
  have hs1 : w1.heap.size = w.heap.size + 1 := by rw [← hw1]; simp
  have hh1 : w1.heap[w.heap.size]? = some (Obj.cells #[.int .i64 1, .string ⟨#[102]⟩, .int .i64 0, .int .i64 0, .int .i64 0, .slice none 0 0, .slice none 0 0, .int .i64 0, .int .i64 0, .int .i64 1, .string ⟨#[120]⟩, .int .i64 0, .int .i64 0, .int .i64 0, .slice none 0 0, .slice none 0 0, .int .i64 0, .int .i64 0] 29) := by rw [← hw1]; exact heap_alloc_new _ _
  have hF : TeV w1.heap.size w1 (.cons fN .nil (.cons xN .nil .nil)) (.slice (some ⟨w.heap.size, 0, none⟩) 2 2) := by
    refine teV_cons.2 ⟨w.heap.size, 0, 2, rfl, by simp [Te.len], by unfold maxLen; omega, by omega, teC_cons.2 ⟨⟨cell_of_row w1 _ 0 _ _ (0, 0) hh1, cell_of_row w1 _ 1 _ _ (0, 0) hh1, cell_of_row w1 _ 2 _ _ (0, 0) hh1, cell_of_row w1 _ 3 _ _ (0, 0) hh1, cell_of_row w1 _ 4 _ _ (0, 0) hh1, cell_of_row w1 _ 5 _ _ (0, 0) hh1, cell_of_row w1 _ 6 _ _ (0, 0) hh1, cell_of_row w1 _ 7 _ _ (0, 0) hh1, cell_of_row w1 _ 8 _ _ (0, 0) hh1⟩, tyV_nil.2 ⟨none, 0, rfl⟩, teV_nil.2 ⟨none, 0, rfl⟩, teC_cons.2 ⟨⟨cell_of_row w1 _ 9 _ _ (0, 0) hh1, cell_of_row w1 _ 10 _ _ (0, 0) hh1, cell_of_row w1 _ 11 _ _ (0, 0) hh1, cell_of_row w1 _ 12 _ _ (0, 0) hh1, cell_of_row w1 _ 13 _ _ (0, 0) hh1, cell_of_row w1 _ 14 _ _ (0, 0) hh1, cell_of_row w1 _ 15 _ _ (0, 0) hh1, cell_of_row w1 _ 16 _ _ (0, 0) hh1, cell_of_row w1 _ 17 _ _ (0, 0) hh1⟩, tyV_nil.2 ⟨none, 0, rfl⟩, teV_nil.2 ⟨none, 0, rfl⟩, teC_nil⟩⟩⟩
  have hc := apply_any w1 _ _ hF (by simp [Te.len]) (by simp [Te.size]) ⟨by simp [fN, Fo.size], trivial, by simp [xN, Fo.size], trivial, trivial⟩
  rw [← hw1] at hc
  have HC := Lib.hid hc
  have HW := Lib.hid (And.intro hw1 (And.intro hb1 hs1))
  clear hc hF hh1 hw1 hb1 hs1
  go_enter Try.func8, Try.ntmps8
  go_wp2_with fail
  refine HC.out.mono ?_
  rintro e w2 ⟨hb2, ⟨u1, u2, u3⟩, ⟨s1, s2, s3⟩, rfl, hf2⟩
  rw [HW.out.1] at hb2
  obtain ⟨ty, g, hty, hg, hTy, hTe⟩ := hf2.now
  obtain rfl := img_nil hty
  obtain ⟨t1, q1, t2, q2, rfl⟩ := exam hg
  have hL2 : TmL w2.heap.size w2 ((⟨5, ⟨#[]⟩, 0, 0, 0, (u1, u2, u3), .nil, (s1, s2, s3), 0, 0⟩ : Nd), .cons { fN with tu := t1, u := q1 } .nil (.cons { xN with tu := t2, u := q2 } .nil .nil)) := ⟨hTy, hTe⟩
  have HB2 := Lib.hid (show Below w.heap.size w w2 from HW.out.2.1.trans (hb2.mono HW.out.2.1.size))
  have HL2 := Lib.hid hL2
  clear hf2 hty hg hTy hTe hL2 hb2 HC
  -- the box of the term
  obtain ⟨w3, hw3⟩ : ∃ w3, w2.alloc (Obj.cells #[.int .i64 5, .string ⟨#[]⟩, .int .i64 0, .int .i64 0, .int .i64 0, .slice u1 u2 u3, .slice s1 s2 s3, .int .i64 0, .int .i64 0] 29) = w3 := ⟨_, rfl⟩
  have hb3 : Below w2.heap.size w2 w3 := by rw [← hw3]; exact (Below.refl _ _).alloc (Nat.le_refl _) _
  have hs3 : w3.heap.size = w2.heap.size + 1 := by rw [← hw3]; simp
  have hh3 : w3.heap[w2.heap.size]? = some (Obj.cells #[.int .i64 5, .string ⟨#[]⟩, .int .i64 0, .int .i64 0, .int .i64 0, .slice u1 u2 u3, .slice s1 s2 s3, .int .i64 0, .int .i64 0] 29) := by rw [← hw3]; exact heap_alloc_new _ _
  have hN := nth_any w3 w2.heap.size (⟨5, ⟨#[]⟩, 0, 0, 0, (u1, u2, u3), .nil, (s1, s2, s3), 0, 0⟩ : Nd) _ 2 (by omega) (HL2.out.below hb3) (by simp [Te.size]) ⟨by simp [Fo.size], ⟨by simp [fN, Fo.size], trivial, by simp [xN, Fo.size], trivial, trivial⟩, trivial⟩
  rw [← hw3] at hN
  dsimp only [teVal, slv] at hN
  have HN := Lib.hid hN
  have HW3 := Lib.hid (And.intro hw3 (And.intro hb3 (And.intro hs3 hh3)))
  clear hN hw3 hb3 hs3 hh3
  dsimp only [applT, Te.top, List.foldl, ap2, teVal, nd5, nd0, slv]
  go_wp2_with fail
  refine HN.out.mono ?_
  rintro e w4 ⟨hb4, h4⟩
  rw [HW3.out.1] at hb4
  rcases h4 with ⟨t, tu, u, B, M, _, ht, rfl, _, _⟩ | ⟨h4, _⟩
  case inr => simp [Te.pre] at h4
  have htn : t.1.s = ⟨#[120]⟩ := by
    simp [Te.pre] at ht
    rw [← ht]
    rfl
  have hb34 := HW3.out.2.1.trans (hb4.mono (by have := HW3.out.2.2.1; omega))
  have hh4 := (hb4.block w2.heap.size (by have := HW3.out.2.2.1; omega)).trans HW3.out.2.2.2
  obtain ⟨⟨y0, y1, y2, y3, y4, ⟨yu1, yu2, yu3⟩, y6, ⟨yv1, yv2, yv3⟩, y8, y9⟩, yp⟩ := t
  obtain ⟨tu1, tu2, tu3⟩ := tu
  obtain ⟨p1, p2, p3⟩ := u
  dsimp only [teVal, slv] at htn ⊢
  subst htn
  have HB4 := Lib.hid (And.intro hb34 hh4)
  clear hb34 hh4 hb4 ht
  -- the box of the found one
  obtain ⟨w5, hw5⟩ : ∃ w5, w4.alloc (Obj.cells #[.int .i64 y0, .string ⟨#[120]⟩, .int .i64 y2, .int .i64 y3, .int .i64 y4, .slice tu1 tu2 tu3, .slice p1 p2 p3, .int .i64 y8, .int .i64 y9] 29) = w5 := ⟨_, rfl⟩
  have hb5 : Below w4.heap.size w4 w5 := by rw [← hw5]; exact (Below.refl _ _).alloc (Nat.le_refl _) _
  have hs5 : w5.heap.size = w4.heap.size + 1 := by rw [← hw5]; simp
  have hh5 : w5.heap[w4.heap.size]? = some (Obj.cells #[.int .i64 y0, .string ⟨#[120]⟩, .int .i64 y2, .int .i64 y3, .int .i64 y4, .slice tu1 tu2 tu3, .slice p1 p2 p3, .int .i64 y8, .int .i64 y9] 29) := by rw [← hw5]; exact heap_alloc_new _ _
  have hx5 := (hb5.block w2.heap.size (Array.getElem?_eq_some_iff.1 HB4.out.2).1).trans HB4.out.2
  obtain ⟨c0, c1, c2, c3, c4, c5, c6, c7, c8⟩ : NdAt w4 w2.heap.size 0 (⟨5, ⟨#[]⟩, 0, 0, 0, (u1, u2, u3), .nil, (s1, s2, s3), 0, 0⟩ : Nd) := NdAt.of_block (T := 29) HB4.out.2
  dsimp only [slv] at c5 c6
  simp only [Nat.zero_add] at c0 c1 c2 c3 c4 c5 c6 c7 c8
  have hb25 : Below w2.heap.size w2 w5 := HB4.out.1.trans (hb5.mono HB4.out.1.size)
  have hR := eright_any w5 w2.heap.size (⟨5, ⟨#[]⟩, 0, 0, 0, (u1, u2, u3), .nil, (s1, s2, s3), 0, 0⟩ : Nd) _ (by have := HB4.out.1.size; omega) (HL2.out.below hb25) (by simp [Te.size]) ⟨⟨by show (0 : Nat) ≤ 60; omega, by simp [Fo.size], trivial, rfl⟩, ⟨⟨by show (1 : Nat) ≤ 60; omega, by simp [fN, Fo.size], trivial, rfl⟩, trivial, ⟨by show (1 : Nat) ≤ 60; omega, by simp [xN, Fo.size], trivial, rfl⟩, trivial, trivial⟩, trivial⟩
  rw [exam_all, ← hw5] at hR
  dsimp only [teVal, slv] at hR
  have HR := Lib.hid hR
  have HW5 := Lib.hid (And.intro hw5 (And.intro hb5 (And.intro hs5 (And.intro hh5 (And.intro hx5 hb25)))))
  have hlt : w2.heap.size < w4.heap.size := (Array.getElem?_eq_some_iff.1 HB4.out.2).1
  clear hR hw5 hb5 hs5 hh5 hx5 hb25
  go_wp2_with fail
  refine HR.out.mono ?_
  rintro e w6 ⟨rfl, hb6⟩
  rw [HW5.out.1] at hb6
  obtain ⟨_, hb5, hs5, hh5, hx5, hb25⟩ := HW5.out
  have hx6 := (hb6.block _ (Array.getElem?_eq_some_iff.1 hx5).1).trans hx5
  have hh6 := (hb6.block _ (Array.getElem?_eq_some_iff.1 hh5).1).trans hh5
  have hb26 := hb25.trans (hb6.mono hb25.size)
  clear c0 c1 c2 c3 c4 c5 c6 c7 c8
  obtain ⟨c0, c1, c2, c3, c4, c5, c6, c7, c8⟩ : NdAt w6 w2.heap.size 0 (⟨5, ⟨#[]⟩, 0, 0, 0, (u1, u2, u3), .nil, (s1, s2, s3), 0, 0⟩ : Nd) := NdAt.of_block (T := 29) hx6
  dsimp only [slv] at c5 c6
  simp only [Nat.zero_add] at c0 c1 c2 c3 c4 c5 c6 c7 c8
  have hS := esize_any w6 w2.heap.size (⟨5, ⟨#[]⟩, 0, 0, 0, (u1, u2, u3), .nil, (s1, s2, s3), 0, 0⟩ : Nd) _ hb26.size (HL2.out.below hb26) (by simp [Te.size])
  dsimp only [teVal, slv] at hS
  rw [show (1 + ((Te.cons { fN with tu := t1, u := q1 } .nil (.cons { xN with tu := t2, u := q2 } .nil .nil)).size : Int)) = 3 by simp [Te.size]] at hS
  have HS := Lib.hid hS
  have HW6 := Lib.hid (And.intro hh6 hb26)
  clear hS hb5 hs5 hh5 hx5 hb25 hx6 hh6 hb26 hb6
  go_wp2_with fail
  refine HS.out.mono ?_
  rintro e w7 ⟨rfl, hb7⟩
  have hh7 := (hb7.block _ (Array.getElem?_eq_some_iff.1 HW6.out.1).1).trans HW6.out.1
  have n1 : w7.cell? ⟨w4.heap.size, 1, none⟩ = some (.string ⟨#[120]⟩) := cell_of_row w7 _ 1 _ _ (0, 0) hh7
  have HB7 := Lib.hid (show Below w.heap.size w w7 from HB2.out.trans ((HW6.out.2.trans (hb7.mono HW6.out.2.size)).mono HB2.out.size))
  clear hh7 hb7 c0 c1 c2 c3 c4 c5 c6 c7 c8
  go_wp2_with fail
  go_ret
  exact ⟨rfl, HB7.out⟩
end Go.Proofs.Ytglmhdlkhnlkiaa
