/- Texts of one proof, one behind the other. -/
import Derived.Test.YtglmhdlkhnlkiaaMgTermRight29
import Derived.Test.YtglmhdlkhnlkiaaMgTermRight31
import Derived.Test.YtglmhdlkhnlkiaaMgTermRight9
import Derived.Test.YtglmhdlkhnlkiaaMgTermRight28
import Derived.Test.YtglmhdlkhnlkiaaMgTermRight27
import Derived.Test.YtglmhdlkhnlkiaaMgTermRight1
/- TermRight. -/
namespace Go.Proofs.Ytglmhdlkhnlkiaa
open Go.RowKit Go.Shelf
attribute [local go_sem] Oper.semAt_some

theorem Te.same_self (f : Te) : f.same true f = true := timg_two (timg_refl f) (timg_refl f)
theorem okN_okR {x : Nd} (h : OkN x) (k : WfN x) : OkR x := ⟨h.1, Nat.lt_of_le_of_lt h.2 (by omega), k.2.2.2.1, k.2.2.1⟩
theorem Te.all_okR {f : Te} (h : f.all OkN) (k : f.all WfN) : f.all OkR := by
  induction f with
  | nil => trivial
  | cons x ps r ih1 ih2 => exact ⟨okN_okR h.1 k.1, ih1 h.2.1 k.2.1, ih2 h.2.2 k.2.2⟩
theorem one_all (x : Nd) (ps : Te) : (one_ x ps).pre.all aloneE = (aloneE (x, ps) && ps.pre.all aloneE) := by simp [Te.pre]
/-- What the law asks of the functions, wherever they are called. -/
structure RgtK (W0 : World) (X Y : Nd) (F G : Te) (okb sm eq : Bool) (N D : Nat) : Prop where
  k_r : ∀ W, LS W0 W → Gives Try.prog 9 #[teVal X] W (fun v _ => v = .bool okb)
  k_rr : ∀ W, LS W0 W → Gives Try.prog 10 #[teVal X] W (fun v _ => v = .bool okb)
  k_s : ∀ W, LS W0 W → Gives Try.prog 11 #[teVal X] W (fun v _ => v = .int .i64 (N : Int))
  k_d : ∀ W, LS W0 W → Gives Try.prog 13 #[teVal X] W (fun v _ => v = .int .i64 (D : Int))
  k_rd : ∀ W, LS W0 W → Gives Try.prog 14 #[teVal X] W (fun v _ => v = .int .i64 (D : Int))
  k_sm : ∀ W, LS W0 W → Gives Try.prog 15 #[teVal X, teVal Y] W (fun v _ => v = .bool sm)
  k_rsm : ∀ W, LS W0 W → Gives Try.prog 16 #[teVal X, teVal Y] W (fun v _ => v = .bool sm)
  k_e : ∀ W, LS W0 W → Gives Try.prog 17 #[teVal X, teVal Y] W (fun v _ => v = .bool eq)
  k_re : ∀ W, LS W0 W → Gives Try.prog 18 #[teVal X, teVal Y] W (fun v _ => v = .bool eq)
  k_ee : ∀ W, LS W0 W → Gives Try.prog 17 #[teVal X, teVal X] W (fun v _ => v = .bool true)
  k_a : ∀ W, LS W0 W → Gives Try.prog 8 #[] W (fun v _ => v = .bool true)
  k_l : ∀ W, LS W0 W → Gives Try.prog 12 #[teVal X] W (fun v _ => ∃ A c, v = .slice A N c)
  k_c : ∀ W, LS W0 W → Gives Try.prog 19 #[teVal X] W (fun v W' => ∃ tu u : Sl, v = teVal { X with tu := tu, u := u } ∧ Calls Try.prog 18 #[teVal { X with tu := tu, u := u }, teVal X] W' fun e w' => e = .returned (.bool true) ∧ Below W'.heap.size W' w')
theorem rgt_k (W0 : World) (X Y : Nd) (F G : Te) (hX : TmL W0.heap.size W0 (X, F)) (hY : TmL W0.heap.size W0 (Y, G)) (wX : WfN X) (wF : F.all WfN) (oX : OkN X) (oF : F.all OkN) (oY : OkN Y) (oG : G.all OkN) (sF : 1 + F.size ≤ 200) (sG : 1 + G.size ≤ 200) :
    RgtK W0 X Y F G (aloneE (X, F) && F.pre.all aloneE) (ndE false X Y && F.same false G) (ndE true X Y && F.same true G) (1 + F.size) (1 + F.depth) := by
  have up : ∀ W, LS W0 W → TmL W.heap.size W (X, F) := fun W hW => hX.up hW hW.size
  have upY : ∀ W, LS W0 W → TmL W.heap.size W (Y, G) := fun W hW => hY.up hW hW.size
  have aX : (one_ X F).all OkN := ⟨oX, oF, trivial⟩
  have aY : (one_ Y G).all OkN := ⟨oY, oG, trivial⟩
  have tX : X.ty.size ≤ 1000000 := Nat.le_trans oX.2 (by omega)
  have tY : Y.ty.size ≤ 1000000 := Nat.le_trans oY.2 (by omega)
  have tF : F.all (fun x => x.ty.size ≤ 1000000) := Te.all_mono oF fun x h => Nat.le_trans h.2 (by omega)
  have tG : G.all (fun x => x.ty.size ≤ 1000000) := Te.all_mono oG fun x h => Nat.le_trans h.2 (by omega)
  have rX : OkR X := okN_okR oX wX
  have rF : F.all OkR := Te.all_okR oF wF
  refine ⟨fun W hW => ?_, fun W hW => ?_, fun W hW => ?_, fun W hW => ?_, fun W hW => ?_, fun W hW => ?_, fun W hW => ?_, fun W hW => ?_, fun W hW => ?_, fun W hW => ?_, fun W hW => ?_, fun W hW => ?_, fun W hW => ?_⟩
  · have := eright_any W W.heap.size X F (Nat.le_refl _) (up W hW) (by omega) ⟨rX, rF, trivial⟩
    rw [one_all] at this
    exact gives_of this
  · exact gives_of (reright_any (F.size + 1) F X W (by omega) (by omega) (up W hW) rX rF)
  · have := esize_any W W.heap.size X F (Nat.le_refl _) (up W hW) (by omega)
    rw [show (1 + (F.size : Int)) = ((1 + F.size : Nat) : Int) by omega] at this
    exact gives_of this
  · have := edepth_any W X F (up W hW) (by omega)
    rw [show (1 + (F.depth : Int)) = ((1 + F.depth : Nat) : Int) by omega] at this
    exact gives_of this
  · have := redepth_any (F.size + 1) F X W (by omega) (by omega) (up W hW)
    rw [show (1 + (F.depth : Int)) = ((1 + F.depth : Nat) : Int) by omega] at this
    exact gives_of this
  · exact gives_of (esame_any X Y F G W (by omega) (by omega) (up W hW) (upY W hW) aX aY)
  · exact gives_of (rsamee_any X Y F G W (by omega) (by omega) (up W hW) (upY W hW) tX tY tF tG)
  · exact gives_of (eequal_any X Y F G W (by omega) (by omega) (up W hW) (upY W hW) aX aY)
  · exact gives_of (requal_any X Y F G W (by omega) (by omega) (up W hW) (upY W hW) tX tY tF tG)
  · have := eequal_any X X F F W (by omega) (by omega) (up W hW) (up W hW) aX aX
    rw [Te.same_self, ndI_two (ndI_refl X) (ndI_refl X)] at this
    exact gives_of this
  · exact gives_of (awake05_any W)
  · refine (rlist_any (F.size + 1) F X W (by omega) (by omega) (up W hW)).mono ?_
    rintro e w' ⟨v, rfl, hrd, hb⟩
    obtain ⟨A, c, rfl⟩ := hrd.form
    exact ⟨_, rfl, ⟨A, c, rfl⟩, hb⟩
  · refine (ecopy_any W X F (up W hW) (by omega) (Nat.lt_of_le_of_lt oX.2 (by omega)) (Te.all_tyb oF)).mono ?_
    rintro e w' ⟨tu, u, rfl, hb, hf⟩
    refine ⟨_, rfl, ⟨tu, u, rfl, ?_⟩, hb⟩
    obtain ⟨ty, g, hty, hg, hTy, hTe⟩ := hf.now
    have hxI : NdI X { X with tu := tu, u := u, ty := ty } := ⟨rfl, rfl, rfl, rfl, rfl, hty, rfl, rfl⟩
    have := requal_any { X with tu := tu, u := u, ty := ty } X g F w' (by rw [hg.size]; omega) (by omega) ⟨hTy, hTe⟩ ((up W hW).up hb hb.size) (ndI_tys hxI tX) tX (timg_tys hg tF) tF
    rw [ndI_two hxI (ndI_refl X), timg_two hg (timg_refl F)] at this
    exact this
set_option maxHeartbeats 16000000 in
set_option maxRecDepth 100000 in
theorem tright_law (w : World) (x y : Nd) (F G : Te) (hx : TmL w.heap.size w (x, F)) (hy : TmL w.heap.size w (y, G)) (wx : WfN x) (wF : F.all WfN) :
    Calls Try.prog 3 #[teVal x, teVal y] w fun e w' => e = .returned (.bool true) ∧ Below w.heap.size w w' := by
  obtain ⟨W0, hW0⟩ : ∃ W0, (w.alloc (Obj.cells (ndC x).toArray 29)).alloc (Obj.cells (ndC y).toArray 29) = W0 := ⟨_, rfl⟩
  have hb0 : Below w.heap.size w W0 := by rw [← hW0]; exact ((Below.refl _ _).alloc (Nat.le_refl _) _).alloc (by simp) _
  have hx0 : W0.heap[w.heap.size]? = some (Obj.cells (ndC x).toArray 29) := by rw [← hW0]; exact (Below.heap_alloc _ _ _ (by simp)).trans (heap_alloc_new w _)
  have hy0 : W0.heap[w.heap.size + 1]? = some (Obj.cells (ndC y).toArray 29) := by
    rw [← hW0]
    have := heap_alloc_new (w.alloc (Obj.cells (ndC x).toArray 29)) (Obj.cells (ndC y).toArray 29)
    rwa [World.size_alloc] at this
  have hX : ∀ W, LS W0 W → NdAt W w.heap.size 0 x ∧ NdAt W (w.heap.size + 1) 0 y := fun W hW => ⟨NdAt.of_block (T := 29) ((Below.block hW _ (Array.getElem?_eq_some_iff.1 hx0).1).trans hx0), NdAt.of_block (T := 29) ((Below.block hW _ (Array.getElem?_eq_some_iff.1 hy0).1).trans hy0)⟩
  have hLx : TmL W0.heap.size W0 (x, F) := hx.up hb0 hb0.size
  have hLy : TmL W0.heap.size W0 (y, G) := hy.up hb0 hb0.size
  have HK := Lib.hid (fun (h : 1 + F.size ≤ 200 ∧ OkN x ∧ F.all OkN) (k : 1 + G.size ≤ 200 ∧ OkN y ∧ G.all OkN) => rgt_k W0 x y F G hLx hLy wx wF h.2.1 h.2.2 k.2.1 k.2.2 h.1 k.1)
  have HA := Lib.hid (show ∀ W, Calls Try.prog 8 #[] W fun e w' => e = .returned (.bool true) ∧ Below W.heap.size W w' from awake05_any)
  have hg1 := egreat_any F x W0 hLx
  have HG2 := Lib.hid (show ∀ W, LS W0 W → _ from fun W hW => egreat_any G y W (hLy.up hW hW.size))
  have FIN := Lib.hid (show ∀ W, LS W0 W → Below w.heap.size w W from fun W hW => hb0.trans (Below.mono hW hb0.size))
  have HS0 := Lib.hid (show LS W0 W0 from Below.refl _ _)
  have HN1 := Lib.hid (show ∀ W, LS W0 W → NdAt W w.heap.size 0 x ∧ NdAt W (w.heap.size + 1) 0 y from hX)
  obtain ⟨x0, x1, x2, x3, x4, ⟨xu1, xu2, xu3⟩, x6, ⟨xv1, xv2, xv3⟩, x8, x9⟩ := x
  obtain ⟨y0, y1, y2, y3, y4, ⟨yu1, yu2, yu3⟩, y6, ⟨yv1, yv2, yv3⟩, y8, y9⟩ := y
  dsimp only [teVal, ndC, slv] at hW0 hg1 HG2 ⊢
  rw [← hW0] at hg1
  have HG1 := Lib.hid hg1
  have HW := Lib.hid hW0
  have HX := Lib.hid (show ∀ W, LS W0 W → ((W.cell? ⟨w.heap.size, 0, none⟩ = some (.int .i64 x0) ∧ W.cell? ⟨w.heap.size, 1, none⟩ = some (.string x1) ∧ W.cell? ⟨w.heap.size, 2, none⟩ = some (.int .i64 x2) ∧ W.cell? ⟨w.heap.size, 3, none⟩ = some (.int .i64 x3) ∧ W.cell? ⟨w.heap.size, 4, none⟩ = some (.int .i64 x4) ∧ W.cell? ⟨w.heap.size, 5, none⟩ = some (.slice xu1 xu2 xu3) ∧ W.cell? ⟨w.heap.size, 6, none⟩ = some (.slice xv1 xv2 xv3) ∧ W.cell? ⟨w.heap.size, 7, none⟩ = some (.int .i64 x8) ∧ W.cell? ⟨w.heap.size, 8, none⟩ = some (.int .i64 x9)) ∧ (W.cell? ⟨w.heap.size + 1, 0, none⟩ = some (.int .i64 y0) ∧ W.cell? ⟨w.heap.size + 1, 1, none⟩ = some (.string y1) ∧ W.cell? ⟨w.heap.size + 1, 2, none⟩ = some (.int .i64 y2) ∧ W.cell? ⟨w.heap.size + 1, 3, none⟩ = some (.int .i64 y3) ∧ W.cell? ⟨w.heap.size + 1, 4, none⟩ = some (.int .i64 y4) ∧ W.cell? ⟨w.heap.size + 1, 5, none⟩ = some (.slice yu1 yu2 yu3) ∧ W.cell? ⟨w.heap.size + 1, 6, none⟩ = some (.slice yv1 yv2 yv3) ∧ W.cell? ⟨w.heap.size + 1, 7, none⟩ = some (.int .i64 y8) ∧ W.cell? ⟨w.heap.size + 1, 8, none⟩ = some (.int .i64 y9))) from fun W hW => by
    have h := HN1.out W hW
    unfold NdAt at h
    simpa only [Nat.zero_add, slv] using h)
  clear hg1 hW0 hb0 hx0 hy0 hX hLx hLy hx hy wx wF HN1
  go_enter Try.func3, Try.ntmps3
  go_wp2_with fail
  refine HG1.out.mono ?_
  rintro e w2 ⟨b1, rfl, hb2, hgo1⟩
  rw [HW.out] at hb2
  have HS2 := Lib.hid (LS.step HS0.out hb2)
  have HO1 := Lib.hid hgo1
  clear hb2 hgo1 HG1
  cases b1
  case' true =>
    go_wp2_with fail
    refine (HA.out _).mono ?_
    rintro e w3 ⟨rfl, hb3⟩
    have HS3 := Lib.hid (LS.step HS2.out hb3)
    clear hb3
    go_wp2_with fail
    go_ret
    exact ⟨rfl, FIN.out _ HS3.out⟩
  obtain ⟨_, d0, d1, d2, d3, d4, d5, d6, d7, d8⟩ := HX.out _ HS2.out
  have hg2 := HG2.out w2 HS2.out
  have HG3 := Lib.hid hg2
  clear hg2
  go_wp2_with fail
  refine HG3.out.mono ?_
  rintro e w3 ⟨b2, rfl, hb3, hgo2⟩
  have HS3 := Lib.hid (LS.step HS2.out hb3)
  have HO2 := Lib.hid hgo2
  clear hb3 hgo2 HG3 HG2 d0 d1 d2 d3 d4 d5 d6 d7 d8
  cases b2
  case' true =>
    go_wp2_with fail
    refine (HA.out _).mono ?_
    rintro e w4 ⟨rfl, hb4⟩
    have HS4 := Lib.hid (LS.step HS3.out hb4)
    clear hb4
    go_wp2_with fail
    go_ret
    exact ⟨rfl, FIN.out _ HS4.out⟩
  obtain ⟨kR, kRR, kS, kD, kRD, kM, kRM, kE, kRE, kX, kA, kL, kC⟩ := HK.out (HO1.out (by first | rfl | trivial)) (HO2.out (by first | rfl | trivial))
  obtain ⟨okb, hokb⟩ : ∃ b, (aloneE (⟨x0, x1, x2, x3, x4, (xu1, xu2, xu3), x6, (xv1, xv2, xv3), x8, x9⟩, F) && F.pre.all aloneE) = b := ⟨_, rfl⟩
  obtain ⟨sm, hsm⟩ : ∃ b, (ndE false ⟨x0, x1, x2, x3, x4, (xu1, xu2, xu3), x6, (xv1, xv2, xv3), x8, x9⟩ ⟨y0, y1, y2, y3, y4, (yu1, yu2, yu3), y6, (yv1, yv2, yv3), y8, y9⟩ && F.same false G) = b := ⟨_, rfl⟩
  obtain ⟨eq, heq⟩ : ∃ b, (ndE true ⟨x0, x1, x2, x3, x4, (xu1, xu2, xu3), x6, (xv1, xv2, xv3), x8, x9⟩ ⟨y0, y1, y2, y3, y4, (yu1, yu2, yu3), y6, (yv1, yv2, yv3), y8, y9⟩ && F.same true G) = b := ⟨_, rfl⟩
  obtain ⟨N, hN⟩ : ∃ n, 1 + F.size = n := ⟨_, rfl⟩
  obtain ⟨D, hD⟩ : ∃ n, 1 + F.depth = n := ⟨_, rfl⟩
  rw [hokb] at kR kRR
  rw [hsm] at kM kRM
  rw [heq] at kE kRE
  rw [hN] at kS kL
  rw [hD] at kD kRD
  dsimp only [teVal, slv] at kR kRR kS kD kRD kM kRM kE kRE kX kA kL kC
  have KR := Lib.hid (And.intro kR kRR)
  have KS := Lib.hid (And.intro kS kL)
  have KD := Lib.hid (And.intro kD kRD)
  have KM := Lib.hid (And.intro kM kRM)
  have KE := Lib.hid (And.intro kE kRE)
  have KX := Lib.hid kX
  have KA := Lib.hid kA
  have KC := Lib.hid kC
  clear kR kRR kS kD kRD kM kRM kE kRE kX kA kL kC HK HO1 HO2 hokb hsm heq hN hD
  go_wp2_with fail
  refine wp_region_held (S := LS W0) (by kernel_rfl) ?_
  change wpAnyH _ _ _ _ _ 53 (List.replicate 53 false).toArray _ w3.drew
  simp only [List.replicate_succ, List.replicate_zero]
  have HS := Lib.hid (show LS W0 w3.drew from Below.drew HS3.out)
  generalize w3.drew = wa at *
  clear HS2 HS3 HS0
  refine any_take (i := 0) (some 12) (.agg #[.int .i64 x0, .string x1, .int .i64 x2, .int .i64 x3, .int .i64 x4, .slice xu1 xu2 xu3, .slice xv1 xv2 xv3, .int .i64 x8, .int .i64 x9]) rfl (by rfl) (by kernel_rfl) (by kernel_rfl) (by kernel_rfl) (fun _ _ _ h => h) (Or.inl ⟨by kernel_rfl, (fun w hw => by obtain ⟨c0, c1, c2, c3, c4, c5, c6, c7, c8⟩ := (HX.out w hw).1; go_simp)⟩) HS.out ?_
  simp only [Act.put, List.setIfInBounds_toArray, List.set_cons_zero, List.set_cons_succ]
  refine any_take (i := 2) (some 14) (.agg #[.int .i64 x0, .string x1, .int .i64 x2, .int .i64 x3, .int .i64 x4, .slice xu1 xu2 xu3, .slice xv1 xv2 xv3, .int .i64 x8, .int .i64 x9]) rfl (by rfl) (by kernel_rfl) (by kernel_rfl) (by kernel_rfl) (fun _ _ _ h => h) (Or.inl ⟨by kernel_rfl, (fun w hw => by obtain ⟨c0, c1, c2, c3, c4, c5, c6, c7, c8⟩ := (HX.out w hw).1; go_simp)⟩) HS.out ?_
  simp only [Act.put, List.setIfInBounds_toArray, List.set_cons_zero, List.set_cons_succ]
  refine any_one_d (i := 1) (some 13) rfl (by rfl) (by kernel_rfl) (by kernel_rfl) (by go_simp) HS.out (KR.out.1 _ HS.out) ?_
  rintro v wb1 hbn hsn rfl
  have HSN := Lib.hid (show LS W0 wb1 from hsn)
  clear HS hbn hsn
  have HS := HSN
  clear HSN
  simp only [Act.put, List.setIfInBounds_toArray, List.set_cons_zero, List.set_cons_succ]
  refine any_one_d (i := 3) (some 15) rfl (by rfl) (by kernel_rfl) (by kernel_rfl) (by go_simp) HS.out (KR.out.2 _ HS.out) ?_
  rintro v wb2 hbn hsn rfl
  have HSN := Lib.hid (show LS W0 wb2 from hsn)
  clear HS hbn hsn
  have HS := HSN
  clear HSN
  simp only [Act.put, List.setIfInBounds_toArray, List.set_cons_zero, List.set_cons_succ]
  refine any_take (i := 4) (some 16) (.bool true) rfl (by rfl) (by kernel_rfl) (by kernel_rfl) (by kernel_rfl) (fun _ _ _ h => h) (Or.inl ⟨by kernel_rfl, (fun w _ => by go_simp)⟩) HS.out ?_
  simp only [Act.put, List.setIfInBounds_toArray, List.set_cons_zero, List.set_cons_succ]
  refine any_take (i := 5) (some 17) (.bool true) rfl (by rfl) (by kernel_rfl) (by kernel_rfl) (by kernel_rfl) (fun _ _ _ h => h) (Or.inl ⟨by kernel_rfl, (fun w _ => by go_simp)⟩) HS.out ?_
  simp only [Act.put, List.setIfInBounds_toArray, List.set_cons_zero, List.set_cons_succ]
  refine any_take (i := 6) (some 18) (.agg #[.int .i64 x0, .string x1, .int .i64 x2, .int .i64 x3, .int .i64 x4, .slice xu1 xu2 xu3, .slice xv1 xv2 xv3, .int .i64 x8, .int .i64 x9]) rfl (by rfl) (by kernel_rfl) (by kernel_rfl) (by kernel_rfl) (fun _ _ _ h => h) (Or.inl ⟨by kernel_rfl, (fun w hw => by obtain ⟨c0, c1, c2, c3, c4, c5, c6, c7, c8⟩ := (HX.out w hw).1; go_simp)⟩) HS.out ?_
  simp only [Act.put, List.setIfInBounds_toArray, List.set_cons_zero, List.set_cons_succ]
  refine any_take (i := 8) (some 20) (.agg #[.int .i64 x0, .string x1, .int .i64 x2, .int .i64 x3, .int .i64 x4, .slice xu1 xu2 xu3, .slice xv1 xv2 xv3, .int .i64 x8, .int .i64 x9]) rfl (by rfl) (by kernel_rfl) (by kernel_rfl) (by kernel_rfl) (fun _ _ _ h => h) (Or.inl ⟨by kernel_rfl, (fun w hw => by obtain ⟨c0, c1, c2, c3, c4, c5, c6, c7, c8⟩ := (HX.out w hw).1; go_simp)⟩) HS.out ?_
  simp only [Act.put, List.setIfInBounds_toArray, List.set_cons_zero, List.set_cons_succ]
  refine any_one_d (i := 7) (some 19) rfl (by rfl) (by kernel_rfl) (by kernel_rfl) (by go_simp) HS.out (KS.out.1 _ HS.out) ?_
  rintro v wb3 hbn hsn rfl
  have HSN := Lib.hid (show LS W0 wb3 from hsn)
  clear HS hbn hsn
  have HS := HSN
  clear HSN
  simp only [Act.put, List.setIfInBounds_toArray, List.set_cons_zero, List.set_cons_succ]
  refine any_one_d (i := 9) (some 21) rfl (by rfl) (by kernel_rfl) (by kernel_rfl) (by go_simp) HS.out (KS.out.2 _ HS.out) ?_
  rintro v wb4 hbn hsn ⟨lA, lc, rfl⟩
  have HSN := Lib.hid (show LS W0 wb4 from hsn)
  clear HS hbn hsn
  have HS := HSN
  clear HSN
  simp only [Act.put, List.setIfInBounds_toArray, List.set_cons_zero, List.set_cons_succ]
  refine any_take (i := 10) (some 22) (.int .i64 (N : Int)) rfl (by rfl) (by kernel_rfl) (by kernel_rfl) (by kernel_rfl) (fun _ _ _ h => h) (Or.inl ⟨by kernel_rfl, (fun w _ => by go_simp)⟩) HS.out ?_
  simp only [Act.put, List.setIfInBounds_toArray, List.set_cons_zero, List.set_cons_succ]
  refine any_take (i := 11) (some 23) (.bool true) rfl (by rfl) (by kernel_rfl) (by kernel_rfl) (by kernel_rfl) (fun _ _ _ h => h) (Or.inl ⟨by kernel_rfl, (fun w _ => by go_simp)⟩) HS.out ?_
  simp only [Act.put, List.setIfInBounds_toArray, List.set_cons_zero, List.set_cons_succ]
  refine any_take (i := 12) (some 24) (.bool true) rfl (by rfl) (by kernel_rfl) (by kernel_rfl) (by kernel_rfl) (fun _ _ _ h => h) (Or.inl ⟨by kernel_rfl, (fun w _ => by go_simp)⟩) HS.out ?_
  simp only [Act.put, List.setIfInBounds_toArray, List.set_cons_zero, List.set_cons_succ]
  refine any_take (i := 13) (some 25) (.bool true) rfl (by rfl) (by kernel_rfl) (by kernel_rfl) (by kernel_rfl) (fun _ _ _ h => h) (Or.inl ⟨by kernel_rfl, (fun w _ => by go_simp)⟩) HS.out ?_
  simp only [Act.put, List.setIfInBounds_toArray, List.set_cons_zero, List.set_cons_succ]
  refine any_take (i := 14) (some 26) (.agg #[.int .i64 x0, .string x1, .int .i64 x2, .int .i64 x3, .int .i64 x4, .slice xu1 xu2 xu3, .slice xv1 xv2 xv3, .int .i64 x8, .int .i64 x9]) rfl (by rfl) (by kernel_rfl) (by kernel_rfl) (by kernel_rfl) (fun _ _ _ h => h) (Or.inl ⟨by kernel_rfl, (fun w hw => by obtain ⟨c0, c1, c2, c3, c4, c5, c6, c7, c8⟩ := (HX.out w hw).1; go_simp)⟩) HS.out ?_
  simp only [Act.put, List.setIfInBounds_toArray, List.set_cons_zero, List.set_cons_succ]
  refine any_take (i := 16) (some 28) (.agg #[.int .i64 x0, .string x1, .int .i64 x2, .int .i64 x3, .int .i64 x4, .slice xu1 xu2 xu3, .slice xv1 xv2 xv3, .int .i64 x8, .int .i64 x9]) rfl (by rfl) (by kernel_rfl) (by kernel_rfl) (by kernel_rfl) (fun _ _ _ h => h) (Or.inl ⟨by kernel_rfl, (fun w hw => by obtain ⟨c0, c1, c2, c3, c4, c5, c6, c7, c8⟩ := (HX.out w hw).1; go_simp)⟩) HS.out ?_
  simp only [Act.put, List.setIfInBounds_toArray, List.set_cons_zero, List.set_cons_succ]
  refine any_one_d (i := 15) (some 27) rfl (by rfl) (by kernel_rfl) (by kernel_rfl) (by go_simp) HS.out (KD.out.1 _ HS.out) ?_
  rintro v wb5 hbn hsn rfl
  have HSN := Lib.hid (show LS W0 wb5 from hsn)
  clear HS hbn hsn
  have HS := HSN
  clear HSN
  simp only [Act.put, List.setIfInBounds_toArray, List.set_cons_zero, List.set_cons_succ]
  refine any_one_d (i := 17) (some 29) rfl (by rfl) (by kernel_rfl) (by kernel_rfl) (by go_simp) HS.out (KD.out.2 _ HS.out) ?_
  rintro v wb6 hbn hsn rfl
  have HSN := Lib.hid (show LS W0 wb6 from hsn)
  clear HS hbn hsn
  have HS := HSN
  clear HSN
  simp only [Act.put, List.setIfInBounds_toArray, List.set_cons_zero, List.set_cons_succ]
  refine any_take (i := 18) (some 30) (.bool true) rfl (by rfl) (by kernel_rfl) (by kernel_rfl) (by kernel_rfl) (fun _ _ _ h => h) (Or.inl ⟨by kernel_rfl, (fun w _ => by go_simp)⟩) HS.out ?_
  simp only [Act.put, List.setIfInBounds_toArray, List.set_cons_zero, List.set_cons_succ]
  refine any_take (i := 19) (some 31) (.bool true) rfl (by rfl) (by kernel_rfl) (by kernel_rfl) (by kernel_rfl) (fun _ _ _ h => h) (Or.inl ⟨by kernel_rfl, (fun w _ => by go_simp)⟩) HS.out ?_
  simp only [Act.put, List.setIfInBounds_toArray, List.set_cons_zero, List.set_cons_succ]
  refine any_take (i := 20) (some 32) (.bool true) rfl (by rfl) (by kernel_rfl) (by kernel_rfl) (by kernel_rfl) (fun _ _ _ h => h) (Or.inl ⟨by kernel_rfl, (fun w _ => by go_simp)⟩) HS.out ?_
  simp only [Act.put, List.setIfInBounds_toArray, List.set_cons_zero, List.set_cons_succ]
  refine any_take (i := 21) (some 33) (.agg #[.int .i64 x0, .string x1, .int .i64 x2, .int .i64 x3, .int .i64 x4, .slice xu1 xu2 xu3, .slice xv1 xv2 xv3, .int .i64 x8, .int .i64 x9]) rfl (by rfl) (by kernel_rfl) (by kernel_rfl) (by kernel_rfl) (fun _ _ _ h => h) (Or.inl ⟨by kernel_rfl, (fun w hw => by obtain ⟨c0, c1, c2, c3, c4, c5, c6, c7, c8⟩ := (HX.out w hw).1; go_simp)⟩) HS.out ?_
  simp only [Act.put, List.setIfInBounds_toArray, List.set_cons_zero, List.set_cons_succ]
  refine any_take (i := 22) (some 34) (.agg #[.int .i64 y0, .string y1, .int .i64 y2, .int .i64 y3, .int .i64 y4, .slice yu1 yu2 yu3, .slice yv1 yv2 yv3, .int .i64 y8, .int .i64 y9]) rfl (by rfl) (by kernel_rfl) (by kernel_rfl) (by kernel_rfl) (fun _ _ _ h => h) (Or.inl ⟨by kernel_rfl, (fun w hw => by obtain ⟨d0, d1, d2, d3, d4, d5, d6, d7, d8⟩ := (HX.out w hw).2; go_simp)⟩) HS.out ?_
  simp only [Act.put, List.setIfInBounds_toArray, List.set_cons_zero, List.set_cons_succ]
  refine any_take (i := 24) (some 36) (.agg #[.int .i64 x0, .string x1, .int .i64 x2, .int .i64 x3, .int .i64 x4, .slice xu1 xu2 xu3, .slice xv1 xv2 xv3, .int .i64 x8, .int .i64 x9]) rfl (by rfl) (by kernel_rfl) (by kernel_rfl) (by kernel_rfl) (fun _ _ _ h => h) (Or.inl ⟨by kernel_rfl, (fun w hw => by obtain ⟨c0, c1, c2, c3, c4, c5, c6, c7, c8⟩ := (HX.out w hw).1; go_simp)⟩) HS.out ?_
  simp only [Act.put, List.setIfInBounds_toArray, List.set_cons_zero, List.set_cons_succ]
  refine any_take (i := 25) (some 37) (.agg #[.int .i64 y0, .string y1, .int .i64 y2, .int .i64 y3, .int .i64 y4, .slice yu1 yu2 yu3, .slice yv1 yv2 yv3, .int .i64 y8, .int .i64 y9]) rfl (by rfl) (by kernel_rfl) (by kernel_rfl) (by kernel_rfl) (fun _ _ _ h => h) (Or.inl ⟨by kernel_rfl, (fun w hw => by obtain ⟨d0, d1, d2, d3, d4, d5, d6, d7, d8⟩ := (HX.out w hw).2; go_simp)⟩) HS.out ?_
  simp only [Act.put, List.setIfInBounds_toArray, List.set_cons_zero, List.set_cons_succ]
  refine any_one_d (i := 23) (some 35) rfl (by rfl) (by kernel_rfl) (by kernel_rfl) (by go_simp) HS.out (KM.out.1 _ HS.out) ?_
  rintro v wb7 hbn hsn rfl
  have HSN := Lib.hid (show LS W0 wb7 from hsn)
  clear HS hbn hsn
  have HS := HSN
  clear HSN
  simp only [Act.put, List.setIfInBounds_toArray, List.set_cons_zero, List.set_cons_succ]
  refine any_one_d (i := 26) (some 38) rfl (by rfl) (by kernel_rfl) (by kernel_rfl) (by go_simp) HS.out (KM.out.2 _ HS.out) ?_
  rintro v wb8 hbn hsn rfl
  have HSN := Lib.hid (show LS W0 wb8 from hsn)
  clear HS hbn hsn
  have HS := HSN
  clear HSN
  simp only [Act.put, List.setIfInBounds_toArray, List.set_cons_zero, List.set_cons_succ]
  refine any_take (i := 27) (some 39) (.bool true) rfl (by rfl) (by kernel_rfl) (by kernel_rfl) (by kernel_rfl) (fun _ _ _ h => h) (Or.inl ⟨by kernel_rfl, (fun w _ => by go_simp)⟩) HS.out ?_
  simp only [Act.put, List.setIfInBounds_toArray, List.set_cons_zero, List.set_cons_succ]
  refine any_take (i := 28) (some 40) (.bool true) rfl (by rfl) (by kernel_rfl) (by kernel_rfl) (by kernel_rfl) (fun _ _ _ h => h) (Or.inl ⟨by kernel_rfl, (fun w _ => by go_simp)⟩) HS.out ?_
  simp only [Act.put, List.setIfInBounds_toArray, List.set_cons_zero, List.set_cons_succ]
  refine any_take (i := 29) (some 41) (.bool true) rfl (by rfl) (by kernel_rfl) (by kernel_rfl) (by kernel_rfl) (fun _ _ _ h => h) (Or.inl ⟨by kernel_rfl, (fun w _ => by go_simp)⟩) HS.out ?_
  simp only [Act.put, List.setIfInBounds_toArray, List.set_cons_zero, List.set_cons_succ]
  refine any_take (i := 30) (some 42) (.agg #[.int .i64 x0, .string x1, .int .i64 x2, .int .i64 x3, .int .i64 x4, .slice xu1 xu2 xu3, .slice xv1 xv2 xv3, .int .i64 x8, .int .i64 x9]) rfl (by rfl) (by kernel_rfl) (by kernel_rfl) (by kernel_rfl) (fun _ _ _ h => h) (Or.inl ⟨by kernel_rfl, (fun w hw => by obtain ⟨c0, c1, c2, c3, c4, c5, c6, c7, c8⟩ := (HX.out w hw).1; go_simp)⟩) HS.out ?_
  simp only [Act.put, List.setIfInBounds_toArray, List.set_cons_zero, List.set_cons_succ]
  refine any_take (i := 31) (some 43) (.agg #[.int .i64 y0, .string y1, .int .i64 y2, .int .i64 y3, .int .i64 y4, .slice yu1 yu2 yu3, .slice yv1 yv2 yv3, .int .i64 y8, .int .i64 y9]) rfl (by rfl) (by kernel_rfl) (by kernel_rfl) (by kernel_rfl) (fun _ _ _ h => h) (Or.inl ⟨by kernel_rfl, (fun w hw => by obtain ⟨d0, d1, d2, d3, d4, d5, d6, d7, d8⟩ := (HX.out w hw).2; go_simp)⟩) HS.out ?_
  simp only [Act.put, List.setIfInBounds_toArray, List.set_cons_zero, List.set_cons_succ]
  refine any_take (i := 33) (some 45) (.agg #[.int .i64 x0, .string x1, .int .i64 x2, .int .i64 x3, .int .i64 x4, .slice xu1 xu2 xu3, .slice xv1 xv2 xv3, .int .i64 x8, .int .i64 x9]) rfl (by rfl) (by kernel_rfl) (by kernel_rfl) (by kernel_rfl) (fun _ _ _ h => h) (Or.inl ⟨by kernel_rfl, (fun w hw => by obtain ⟨c0, c1, c2, c3, c4, c5, c6, c7, c8⟩ := (HX.out w hw).1; go_simp)⟩) HS.out ?_
  simp only [Act.put, List.setIfInBounds_toArray, List.set_cons_zero, List.set_cons_succ]
  refine any_take (i := 34) (some 46) (.agg #[.int .i64 y0, .string y1, .int .i64 y2, .int .i64 y3, .int .i64 y4, .slice yu1 yu2 yu3, .slice yv1 yv2 yv3, .int .i64 y8, .int .i64 y9]) rfl (by rfl) (by kernel_rfl) (by kernel_rfl) (by kernel_rfl) (fun _ _ _ h => h) (Or.inl ⟨by kernel_rfl, (fun w hw => by obtain ⟨d0, d1, d2, d3, d4, d5, d6, d7, d8⟩ := (HX.out w hw).2; go_simp)⟩) HS.out ?_
  simp only [Act.put, List.setIfInBounds_toArray, List.set_cons_zero, List.set_cons_succ]
  refine any_one_d (i := 32) (some 44) rfl (by rfl) (by kernel_rfl) (by kernel_rfl) (by go_simp) HS.out (KE.out.1 _ HS.out) ?_
  rintro v wb9 hbn hsn rfl
  have HSN := Lib.hid (show LS W0 wb9 from hsn)
  clear HS hbn hsn
  have HS := HSN
  clear HSN
  simp only [Act.put, List.setIfInBounds_toArray, List.set_cons_zero, List.set_cons_succ]
  refine any_one_d (i := 35) (some 47) rfl (by rfl) (by kernel_rfl) (by kernel_rfl) (by go_simp) HS.out (KE.out.2 _ HS.out) ?_
  rintro v wb10 hbn hsn rfl
  have HSN := Lib.hid (show LS W0 wb10 from hsn)
  clear HS hbn hsn
  have HS := HSN
  clear HSN
  simp only [Act.put, List.setIfInBounds_toArray, List.set_cons_zero, List.set_cons_succ]
  refine any_take (i := 36) (some 48) (.bool true) rfl (by rfl) (by kernel_rfl) (by kernel_rfl) (by kernel_rfl) (fun _ _ _ h => h) (Or.inl ⟨by kernel_rfl, (fun w _ => by go_simp)⟩) HS.out ?_
  simp only [Act.put, List.setIfInBounds_toArray, List.set_cons_zero, List.set_cons_succ]
  refine any_take (i := 37) (some 49) (.bool true) rfl (by rfl) (by kernel_rfl) (by kernel_rfl) (by kernel_rfl) (fun _ _ _ h => h) (Or.inl ⟨by kernel_rfl, (fun w _ => by go_simp)⟩) HS.out ?_
  simp only [Act.put, List.setIfInBounds_toArray, List.set_cons_zero, List.set_cons_succ]
  refine any_take (i := 38) (some 50) (.bool true) rfl (by rfl) (by kernel_rfl) (by kernel_rfl) (by kernel_rfl) (fun _ _ _ h => h) (Or.inl ⟨by kernel_rfl, (fun w _ => by go_simp)⟩) HS.out ?_
  simp only [Act.put, List.setIfInBounds_toArray, List.set_cons_zero, List.set_cons_succ]
  refine any_take (i := 39) (some 51) (.agg #[.int .i64 x0, .string x1, .int .i64 x2, .int .i64 x3, .int .i64 x4, .slice xu1 xu2 xu3, .slice xv1 xv2 xv3, .int .i64 x8, .int .i64 x9]) rfl (by rfl) (by kernel_rfl) (by kernel_rfl) (by kernel_rfl) (fun _ _ _ h => h) (Or.inl ⟨by kernel_rfl, (fun w hw => by obtain ⟨c0, c1, c2, c3, c4, c5, c6, c7, c8⟩ := (HX.out w hw).1; go_simp)⟩) HS.out ?_
  simp only [Act.put, List.setIfInBounds_toArray, List.set_cons_zero, List.set_cons_succ]
  refine any_take (i := 40) (some 52) (.agg #[.int .i64 x0, .string x1, .int .i64 x2, .int .i64 x3, .int .i64 x4, .slice xu1 xu2 xu3, .slice xv1 xv2 xv3, .int .i64 x8, .int .i64 x9]) rfl (by rfl) (by kernel_rfl) (by kernel_rfl) (by kernel_rfl) (fun _ _ _ h => h) (Or.inl ⟨by kernel_rfl, (fun w hw => by obtain ⟨c0, c1, c2, c3, c4, c5, c6, c7, c8⟩ := (HX.out w hw).1; go_simp)⟩) HS.out ?_
  simp only [Act.put, List.setIfInBounds_toArray, List.set_cons_zero, List.set_cons_succ]
  refine any_one_d (i := 41) (some 53) rfl (by rfl) (by kernel_rfl) (by kernel_rfl) (by go_simp) HS.out (KX.out _ HS.out) ?_
  rintro v wb11 hbn hsn rfl
  have HSN := Lib.hid (show LS W0 wb11 from hsn)
  clear HS hbn hsn
  have HS := HSN
  clear HSN
  simp only [Act.put, List.setIfInBounds_toArray, List.set_cons_zero, List.set_cons_succ]
  refine any_take (i := 42) (some 54) (.bool true) rfl (by rfl) (by kernel_rfl) (by kernel_rfl) (by kernel_rfl) (fun _ _ _ h => h) (Or.inl ⟨by kernel_rfl, (fun w _ => by go_simp)⟩) HS.out ?_
  simp only [Act.put, List.setIfInBounds_toArray, List.set_cons_zero, List.set_cons_succ]
  refine any_take (i := 43) (some 55) (.bool true) rfl (by rfl) (by kernel_rfl) (by kernel_rfl) (by kernel_rfl) (fun _ _ _ h => h) (Or.inl ⟨by kernel_rfl, (fun w _ => by go_simp)⟩) HS.out ?_
  simp only [Act.put, List.setIfInBounds_toArray, List.set_cons_zero, List.set_cons_succ]
  refine any_take (i := 44) (some 56) (.agg #[.int .i64 x0, .string x1, .int .i64 x2, .int .i64 x3, .int .i64 x4, .slice xu1 xu2 xu3, .slice xv1 xv2 xv3, .int .i64 x8, .int .i64 x9]) rfl (by rfl) (by kernel_rfl) (by kernel_rfl) (by kernel_rfl) (fun _ _ _ h => h) (Or.inl ⟨by kernel_rfl, (fun w hw => by obtain ⟨c0, c1, c2, c3, c4, c5, c6, c7, c8⟩ := (HX.out w hw).1; go_simp)⟩) HS.out ?_
  simp only [Act.put, List.setIfInBounds_toArray, List.set_cons_zero, List.set_cons_succ]
  refine any_take (i := 46) (some 58) (.agg #[.int .i64 x0, .string x1, .int .i64 x2, .int .i64 x3, .int .i64 x4, .slice xu1 xu2 xu3, .slice xv1 xv2 xv3, .int .i64 x8, .int .i64 x9]) rfl (by rfl) (by kernel_rfl) (by kernel_rfl) (by kernel_rfl) (fun _ _ _ h => h) (Or.inl ⟨by kernel_rfl, (fun w hw => by obtain ⟨c0, c1, c2, c3, c4, c5, c6, c7, c8⟩ := (HX.out w hw).1; go_simp)⟩) HS.out ?_
  simp only [Act.put, List.setIfInBounds_toArray, List.set_cons_zero, List.set_cons_succ]
  refine any_one_d (i := 45) (some 57) rfl (by rfl) (by kernel_rfl) (by kernel_rfl) (by go_simp) HS.out (KC.out _ HS.out) ?_
  rintro v wb12 hbn hsn ⟨⟨p1, p2, p3⟩, ⟨s1, s2, s3⟩, rfl, hce⟩
  have HSN := Lib.hid (show LS W0 wb12 from hsn)
  have HCE := Lib.hid (gives_of hce)
  clear hce
  clear HS hbn hsn
  have HS := HSN
  clear HSN
  simp only [Act.put, List.setIfInBounds_toArray, List.set_cons_zero, List.set_cons_succ]
  refine any_one_d (i := 47) (some 59) rfl (by rfl) (by kernel_rfl) (by kernel_rfl) (by go_simp) HS.out (HCE.out) ?_
  rintro v wb13 hbn hsn rfl
  have HSN := Lib.hid (show LS W0 wb13 from hsn)
  clear HS hbn hsn
  have HS := HSN
  clear HSN
  simp only [Act.put, List.setIfInBounds_toArray, List.set_cons_zero, List.set_cons_succ]
  refine any_take (i := 48) (some 60) (.bool true) rfl (by rfl) (by kernel_rfl) (by kernel_rfl) (by kernel_rfl) (fun _ _ _ h => h) (Or.inl ⟨by kernel_rfl, (fun w _ => by go_simp)⟩) HS.out ?_
  simp only [Act.put, List.setIfInBounds_toArray, List.set_cons_zero, List.set_cons_succ]
  refine any_take (i := 49) (some 61) (.bool true) rfl (by rfl) (by kernel_rfl) (by kernel_rfl) (by kernel_rfl) (fun _ _ _ h => h) (Or.inl ⟨by kernel_rfl, (fun w _ => by go_simp)⟩) HS.out ?_
  simp only [Act.put, List.setIfInBounds_toArray, List.set_cons_zero, List.set_cons_succ]
  refine any_one_d (i := 50) (some 62) rfl (by rfl) (by kernel_rfl) (by kernel_rfl) (by go_simp) HS.out (KA.out _ HS.out) ?_
  rintro v wb14 hbn hsn rfl
  have HSN := Lib.hid (show LS W0 wb14 from hsn)
  clear HS hbn hsn
  have HS := HSN
  clear HSN
  simp only [Act.put, List.setIfInBounds_toArray, List.set_cons_zero, List.set_cons_succ]
  refine any_take (i := 51) (some 63) (.bool true) rfl (by rfl) (by kernel_rfl) (by kernel_rfl) (by kernel_rfl) (fun _ _ _ h => h) (Or.inl ⟨by kernel_rfl, (fun w _ => by go_simp)⟩) HS.out ?_
  simp only [Act.put, List.setIfInBounds_toArray, List.set_cons_zero, List.set_cons_succ]
  refine any_take (i := 52) (some 4) (.bool true) rfl (by rfl) (by kernel_rfl) (by kernel_rfl) (by kernel_rfl) (fun _ _ _ h => h) (Or.inl ⟨by kernel_rfl, (fun w _ => by go_simp)⟩) HS.out ?_
  simp only [Act.put, List.setIfInBounds_toArray, List.set_cons_zero, List.set_cons_succ]
  refine wpAnyH_done (by kernel_rfl) ?_ _
  go_wp2_with fail
  exact bodyPost_ret (results_tmp rfl _ _ _) rfl ⟨rfl, FIN.out _ HS.out⟩
end Go.Proofs.Ytglmhdlkhnlkiaa
