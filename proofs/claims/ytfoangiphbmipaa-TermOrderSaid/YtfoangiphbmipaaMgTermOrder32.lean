/- Texts of one proof, one behind the other. -/
import Derived.Test.YtfoangiphbmipaaMgTermOrder29
import Derived.Test.YtfoangiphbmipaaMgTermOrder21
import Derived.Test.YtfoangiphbmipaaMgTermOrder30
import Derived.Test.YtfoangiphbmipaaMgTermOrder31
import Derived.Test.YtfoangiphbmipaaMgTermOrder14
import Derived.Test.YtfoangiphbmipaaMgTermOrder1
/- TermOrder. -/
namespace Go.Proofs.Ytfoangiphbmipaa
open Go.RowKit Go.Shelf
attribute [local go_sem] Oper.semAt_some
attribute [local go_sem ↓] builtin_app

set_option maxHeartbeats 16000000 in
set_option maxRecDepth 100000 in
theorem torder_law (w : World) (x : Nd) (F : Te) (i : Int) (hx : TmL w.heap.size w (x, F)) :
    Calls Try.prog 3 #[teVal x, .int .i64 i] w fun e w' => e = .returned (.bool true) ∧ Below w.heap.size w w' := by
  obtain ⟨W0, hW0⟩ : ∃ W0, (w.alloc (Obj.cells (ndC x).toArray 29)).alloc (Obj.cells #[.bool false] 4) = W0 := ⟨_, rfl⟩
  have hb0 : Below w.heap.size w W0 := by rw [← hW0]; exact ((Below.refl _ _).alloc (Nat.le_refl _) _).alloc (by simp) _
  have hs0 : W0.heap.size = w.heap.size + 2 := by rw [← hW0]; simp
  have hx0 : W0.heap[w.heap.size]? = some (Obj.cells (ndC x).toArray 29) := by rw [← hW0]; exact (Below.heap_alloc _ _ _ (by simp)).trans (heap_alloc_new w _)
  have hy0 : Boxed W0 (w.heap.size + 1) 4 (.bool false) := by
    rw [← hW0]
    have := heap_alloc_new (w.alloc (Obj.cells (ndC x).toArray 29)) (Obj.cells #[.bool false] 4)
    rwa [World.size_alloc] at this
  have hLx : TmL W0.heap.size W0 (x, F) := hx.up hb0 hb0.size
  have HX0 := Lib.hid (And.intro hx0 (And.intro hy0 (And.intro hs0 hb0)))
  have HLX := Lib.hid (show ∀ W, Below W0.heap.size W0 W → TmL W.heap.size W (x, F) from fun W hW => hLx.up hW hW.size)
  have HA := Lib.hid (show ∀ W, Calls Try.prog 5 #[] W fun e w' => e = .returned (.bool true) ∧ Below W.heap.size W w' from awake05_any)
  have hg1 := egreat_any F x W0 hLx
  obtain ⟨X, hX⟩ : ∃ X : Nd, x = X := ⟨_, rfl⟩
  have NX := Lib.hid (show ∀ W, Below W0.heap.size W0 W → NdAt W w.heap.size 0 x ∧ Boxed W (w.heap.size + 1) 4 (.bool false) from fun W hW => ⟨NdAt.of_block (T := 29) ((hW.block _ (Array.getElem?_eq_some_iff.1 hx0).1).trans hx0), (hW.block _ hy0.lt).trans hy0⟩)
  have HLI := Lib.hid (fun (h : 1 + F.size ≤ 200) W hW => rlist_any (F.size + 1) F x W (by omega) (by omega) (HLX.out W hW))
  have HAL := Lib.hid (fun (h : 1 + F.size ≤ 200 ∧ OkN x ∧ F.all OkN) W hW => eall_make W x F (HLX.out W hW) (by omega) (Nat.lt_of_le_of_lt h.2.1.2 (by omega)) (Te.all_tyb h.2.2))
  have HNT := Lib.hid (fun (h : 1 + F.size ≤ 200 ∧ OkN x ∧ F.all OkN) W hW => nth_any W W.heap.size x F i (Nat.le_refl _) (HLX.out W hW) (by omega) (show (one_ x F).tyb from ⟨Nat.lt_of_le_of_lt h.2.1.2 (by omega), Te.all_tyb h.2.2, trivial⟩))
  have HSP := Lib.hid (fun (h : 1 + F.size ≤ 200) W hW => espans_any W x F (HLX.out W hW) (by omega))
  have HNE := Lib.hid (fun (h : 1 + F.size ≤ 200) W hW => enested_any W W.heap.size x F (Nat.le_refl _) (HLX.out W hW) (by omega))
  have HRN := Lib.hid (fun (h : 1 + F.size ≤ 200) W hW => rnested_any (F.size + 1) F x W (by omega) (by omega) (HLX.out W hW))
  obtain ⟨x0, x1, x2, x3, x4, ⟨xu1, xu2, xu3⟩, x6, ⟨xv1, xv2, xv3⟩, x8, x9⟩ := x
  dsimp only [teVal, ndC, slv] at hW0 hg1 NX HLI HAL HNT HSP HNE HRN ⊢
  rw [← hW0] at hg1
  have HG1 := Lib.hid hg1
  have HW := Lib.hid hW0
  clear hg1 hW0 hb0 hx0 hy0 hLx hx hs0
  refine (callsIn_wide (n := 6)).1 ?_
  refine callsIn_of_wp_marks Try.func3 rfl trivial ?_ rfl
  simp only [Try.ntmps3, List.size_toArray, List.length_cons, List.length_nil, Nat.reduceAdd, Nat.reduceSub, Array.replicate_succ, Array.replicate_zero, List.push_toArray, List.append_toArray, List.nil_append, List.cons_append]
  gi_wp2
  refine ⟨trivial, ?_⟩
  refine (callsIn_wide.2 HG1.out).mono ?_
  rintro e w2 ⟨bg, rfl, hb2, hgo⟩
  rw [HW.out] at hb2
  have HB2 := Lib.hid hb2
  have HGO := Lib.hid hgo
  clear hb2 hgo HG1
  cases bg
  case' true =>
    gi_wp2
    refine ⟨trivial, ?_⟩
    refine (callsIn_wide.2 (HA.out _)).mono ?_
    rintro e w3 ⟨rfl, hb3⟩
    have hb03 := HB2.out.trans (hb3.mono HB2.out.size)
    have hbx := (NX.out w3 hb03).2
    have bc := hbx.cell
    have bf := hbx.frozen
    have HB3 := Lib.hid (And.intro hbx (HX0.out.2.2.2.trans (hb03.mono HX0.out.2.2.2.size)))
    clear hb3 hb03 hbx
    gi_wp2
    exact ⟨_, results_box rfl _ _ _ _ rfl (load_bool (HB3.out.1.set _).cell), rfl, HB3.out.2.trans ((Below.refl _ _).setCell (p := ⟨w.heap.size + 1, 0, none⟩) (by simp) _)⟩
  have HGR := Lib.hid (HGO.out (by trivial))
  clear HGO
  have hli := HLI.out HGR.out.1 w2 HB2.out
  obtain ⟨N, hN⟩ : ∃ N, 1 + F.size = N := ⟨_, rfl⟩
  rw [hN] at hli
  have hN2 : N ≤ 200 := by rw [← hN]; exact HGR.out.1
  have hN1 : 0 < N := by omega
  have HN := Lib.hid hN
  clear hN
  have HLI2 := Lib.hid hli
  obtain ⟨⟨c0, c1, c2, c3, c4, c5, c6, c7, c8⟩, m0⟩ := NX.out w2 HB2.out
  simp only [Nat.zero_add, slv] at c0 c1 c2 c3 c4 c5 c6 c7 c8
  clear hli HLI
  gi_wp2
  refine ⟨trivial, ?_⟩
  refine (callsIn_wide.2 HLI2.out).mono ?_
  rintro e w3 ⟨lv, rfl, hrd, hb3⟩
  obtain ⟨lA, lc, rfl⟩ := hrd.form
  have HB3 := Lib.hid (show Below W0.heap.size W0 w3 from HB2.out.trans (hb3.mono HB2.out.size))
  have HRD := Lib.hid hrd
  clear hb3 hrd c0 c1 c2 c3 c4 c5 c6 c7 c8 m0 HLI2 HB2
  obtain ⟨w4, hw4⟩ : ∃ w4, (w3.alloc (Obj.cells #[.slice lA N lc] 25)).alloc (Obj.cells #[.int .i64 0] 3) = w4 := ⟨_, rfl⟩
  have hb4 : Below w3.heap.size w3 w4 := by rw [← hw4]; exact ((Below.refl _ _).alloc (Nat.le_refl _) _).alloc (by simp) _
  have hs4 : w4.heap.size = w3.heap.size + 2 := by rw [← hw4]; simp
  have hg4 : Boxed w4 w3.heap.size 25 (.slice lA N lc) := by rw [← hw4]; exact (Boxed.new w3 _ _).alloc _
  have hn4 : Boxed w4 (w3.heap.size + 1) 3 (.int .i64 0) := by
    rw [← hw4]
    have := Boxed.new (w3.alloc (Obj.cells #[.slice lA N lc] 25)) 3 (.int .i64 0)
    rwa [World.size_alloc] at this
  have hb04 : Below W0.heap.size W0 w4 := HB3.out.trans (hb4.mono HB3.out.size)
  obtain ⟨⟨c0, c1, c2, c3, c4, c5, c6, c7, c8⟩, m0⟩ := NX.out w4 hb04
  simp only [Nat.zero_add, slv] at c0 c1 c2 c3 c4 c5 c6 c7 c8
  rw [← hw4] at c0 c1 c2 c3 c4 c5 c6 c7 c8
  have hal := HAL.out HGR.out w4 hb04
  rw [← hw4] at hal
  have HAL2 := Lib.hid hal
  have HW4 := Lib.hid (And.intro hw4 (And.intro hb4 (And.intro hs4 (And.intro hg4 (And.intro hn4 hb04)))))
  clear hal HAL hw4 hb4 hs4 hg4 hn4 hb04 m0
  gi_wp2
  refine ⟨trivial, ?_⟩
  refine (callsIn_wide.2 HAL2.out).mono ?_
  rintro e w5 ⟨Bs, ⟨tu1, tu2, tu3⟩, ⟨u1, u2, u3⟩, rfl, hb5, hBs1, hBs2, hfr⟩
  rw [HW4.out.1] at hb5 hBs1 hfr
  clear c0 c1 c2 c3 c4 c5 c6 c7 c8 HAL2
  have HFR := Lib.hid (And.intro hb5 (And.intro hBs1 (And.intro hBs2 hfr)))
  clear hb5 hBs1 hBs2 hfr
  gi_wp2
  rw [seq_not_nil]
  obtain ⟨hb5, hBs1, hBs2, hfr⟩ := HFR.out
  obtain ⟨hw4, hb4, hs4, hg4, hn4, hb04⟩ := HW4.out
  obtain ⟨ty, g, hty, hg, hfix⟩ := hfr.fix
  have hBs3 : Bs < w5.heap.size := (Array.getElem?_eq_some_iff.1 hBs2).1
  have hgs : g.size = F.size := hg.size
  obtain ⟨K, hKe⟩ : ∃ K : Nat → Prop, K = fun k => w4.heap.size ≤ k ∧ k < Bs := ⟨_, rfl⟩
  have hTI : TImg (one_ ⟨x0, x1, x2, x3, x4, (xu1, xu2, xu3), x6, (xv1, xv2, xv3), x8, x9⟩ F) (one_ ⟨x0, x1, x2, x3, x4, (tu1, tu2, tu3), ty, (u1, u2, u3), x8, x9⟩ g) := ⟨⟨rfl, rfl, rfl, rfl, rfl, hty, rfl, rfl⟩, hg, trivial⟩
  have HSEQ := Lib.hid (all1X 5 (by omega) Bs Bs K (fun k hk => by rw [hKe] at hk; exact hk.2) ⟨x0, x1, x2, x3, x4, (tu1, tu2, tu3), ty, (u1, u2, u3), x8, x9⟩ g (by have := HGR.out.1; omega) (timg_tyb hTI ⟨HGR.out.2.1, HGR.out.2.2, trivial⟩) w5 (by omega) hBs2 (fun W' hk => hfix W' fun k h1 h2 => hk.keep k (by rw [hKe]; exact ⟨h1, h2⟩)))
  have HPRE := Lib.hid (timg_pre hTI)
  obtain ⟨L, hL⟩ : ∃ L, (one_ ⟨x0, x1, x2, x3, x4, (tu1, tu2, tu3), ty, (u1, u2, u3), x8, x9⟩ g).pre = L := ⟨_, rfl⟩
  have hLl : L.length = N := by rw [← hL, Te.pre_len, ← HN.out]; simp [Te.size, hgs]
  rw [hL] at HSEQ HPRE
  have HLL := Lib.hid hLl
  have hn0 : w3.heap.size + 1 < w5.heap.size := by omega
  have hn5 : Boxed w5 (w3.heap.size + 1) 3 (.int .i64 0) := (hb5.block _ (by omega)).trans hn4
  have hg5 : Boxed w5 w3.heap.size 25 (.slice lA N lc) := (hb5.block _ (by omega)).trans hg4
  obtain ⟨I0, hI0⟩ : ∃ I0 : (Nat → Prop) → List Gv → World → Prop, I0 = fun O pre W => Kk (fun j => j < w5.heap.size ∧ j ≠ w3.heap.size + 1) w5 W ∧ (∀ j, O j → w5.heap.size ≤ j) ∧ Boxed W (w3.heap.size + 1) 3 (.int .i64 pre.length) := ⟨_, rfl⟩
  have kkS : ∀ {O : Nat → Prop} {A C : World}, Kk (fun j => j < w5.heap.size ∧ j ≠ w3.heap.size + 1) w5 A → (∀ j, O j → w5.heap.size ≤ j) → Stp O A C → Kk (fun j => j < w5.heap.size ∧ j ≠ w3.heap.size + 1) w5 C := fun hk hO hst => hk.trans ⟨hst.os, hst.tape, hst.output, hst.size, fun j hj => hst.block j (by have := hk.size; omega) fun h => by have := hO j h; omega⟩
  have ooS : ∀ {O O' : Nat → Prop} {A : World}, Kk (fun j => j < w5.heap.size ∧ j ≠ w3.heap.size + 1) w5 A → (∀ j, O j → w5.heap.size ≤ j) → (∀ j, j < A.heap.size → O' j → O j) → ∀ j, O' j → w5.heap.size ≤ j := fun {O O' A} hk hO h j hj => by
    by_cases h2 : j < A.heap.size
    · exact hO j (h j h2 hj)
    · have := hk.size; omega
  have aI : AbS I0 := by
    rw [hI0]
    intro O O' s A C ⟨h1, h2, h3⟩ hst hO
    exact ⟨kkS h1 h2 hst, ooS h1 h2 hO, (hst.block _ h3.lt fun h => by have := h2 _ h; omega).trans h3⟩
  have rI : ∀ O s A C, I0 O s A → Stp (fun k => k = w5.heap.size ∨ k = w5.heap.size + 1) A C → I0 O s C := by
    rw [hI0]
    rintro O s A C ⟨h1, h2, h3⟩ hst
    exact ⟨h1.trans ⟨hst.os, hst.tape, hst.output, hst.size, fun j hj => hst.block j (by have := h1.size; omega) (by omega)⟩, h2, (hst.block _ h3.lt (by omega)).trans h3⟩
  have start : I0 (fun _ => False) [] w5 := by
    rw [hI0]
    exact ⟨Kk.refl _ _, fun _ h => h.elim, hn5⟩
  have HI := Lib.hid (And.intro aI (And.intro rI start))
  have HI0 := Lib.hid hI0
  have hKb : ∀ j, K j → j < w5.heap.size ∧ j ≠ w3.heap.size + 1 := fun j hj => by rw [hKe] at hj; omega
  have HKb := Lib.hid hKb
  have HB05 := Lib.hid (show Below W0.heap.size W0 w5 from hb04.trans (hb5.mono hb04.size))
  have hg03 : W0.heap.size ≤ w3.heap.size := HB3.out.size
  have hw0 : w.heap.size + 2 ≤ w3.heap.size := by have := HX0.out.2.2.1; omega
  have HB35 := Lib.hid (show Below w3.heap.size w3 w5 from hb4.trans (hb5.mono (by omega)))
  -- what a round finds
  have HEL := Lib.hid (show ∀ (W : World) (j : Nat) (y : Gv), Kk (fun j => j < w5.heap.size ∧ j ≠ w3.heap.size + 1) w5 W → L[j]? = some y.2.1 → (∃ B M, FreshM B M W y.2.1.1 y.2.1.2 y.2.2.1 y.2.2.2) → ∃ (lb loff : Nat) (o : Nd), lA = some ⟨lb, loff, none⟩ ∧ ∀ wr, Below W.heap.size W wr → NdAt wr lb (loff + j * 9) o ∧ Calls Try.prog 8 #[teVal { y.2.1.1 with tu := y.2.2.1, u := y.2.2.2 }, teVal o] wr fun e w' => e = .returned (.bool true) ∧ Below wr.heap.size wr w' from fun W j y hkk hj ⟨B, M, hfm⟩ => by
    obtain ⟨lb, loff, lcap, hlv, hlc1, hlc2, hlt, hlC⟩ := HRD.out.2.resolve_left (by rintro ⟨h, _⟩; omega)
    injection hlv with hlA _ hlcc
    subst hlA; subst hlcc
    obtain ⟨s, hs, hsn, hst⟩ := tmR_at HPRE.out j y.2.1 hj
    refine ⟨lb, loff, s.1, rfl, fun wr hbr => ⟨NdAt.of_cells fun q u hu => ?_, ?_⟩⟩
    · have hi : q < 9 := (List.getElem?_eq_some_iff.1 hu).1
      have h1 : w3.cell? ⟨lb, loff + (j * 9 + q), none⟩ = some u := hlC (j * 9 + q) u (by
        rw [preC, flat9 _ _ _ hi]
        have hs' : ((⟨x0, x1, x2, x3, x4, (xu1, xu2, xu3), x6, (xv1, xv2, xv3), x8, x9⟩, F) :: F.pre : List Tm)[j]? = some s := by
          have : (one_ ⟨x0, x1, x2, x3, x4, (xu1, xu2, xu3), x6, (xv1, xv2, xv3), x8, x9⟩ F).pre = ((⟨x0, x1, x2, x3, x4, (xu1, xu2, xu3), x6, (xv1, xv2, xv3), x8, x9⟩, F) :: F.pre : List Tm) := by simp [Te.pre]
          rw [← this]; exact hs
        rw [hs']
        exact hu)
      have h2 : wr.heap[lb]? = w3.heap[lb]? := by
        refine (hbr.block lb (by have := hkk.size; omega)).trans ((hkk.keep lb (by constructor <;> omega)).trans ?_)
        exact HB35.out.block lb hlt
      rw [show loff + j * 9 + q = loff + (j * 9 + q) by omega]
      exact (World.cell?_of_block h2).trans h1
    · obtain ⟨ty', g', hty', hg', hTy, hTe⟩ := (hfm.below hbr).now
      have hBW : Below W0.heap.size W0 W := HB05.out.trans ⟨hkk.os, hkk.tape, hkk.output, hkk.size, fun q hq => hkk.keep q (by constructor <;> omega)⟩
      have hTs : TmL wr.heap.size wr s := TeL.pre (f := one_ ⟨x0, x1, x2, x3, x4, (xu1, xu2, xu3), x6, (xv1, xv2, xv3), x8, x9⟩ F) ⟨HLX.out wr (hBW.trans (hbr.mono hBW.size)), trivial⟩ s (List.mem_of_getElem? hs)
      have hsz := Te.size_pre (one_ ⟨x0, x1, x2, x3, x4, (xu1, xu2, xu3), x6, (xv1, xv2, xv3), x8, x9⟩ F) s (List.mem_of_getElem? hs)
      have hok := Te.all_pre (f := one_ ⟨x0, x1, x2, x3, x4, (xu1, xu2, xu3), x6, (xv1, xv2, xv3), x8, x9⟩ F) (P := OkN) ⟨HGR.out.2.1, HGR.out.2.2, trivial⟩ s (List.mem_of_getElem? hs)
      have hF2 := HGR.out.1
      have hNN : NdI s.1 { y.2.1.1 with tu := y.2.2.1, u := y.2.2.2, ty := ty' } := ndI_trans hsn ⟨rfl, rfl, rfl, rfl, rfl, hty', rfl, rfl⟩
      have hTT := timg_trans hst hg'
      have tS : s.1.ty.size ≤ 1000000 := Nat.le_trans hok.1.2 (by omega)
      have tA : s.2.all (fun x => x.ty.size ≤ 1000000) := Te.all_mono hok.2 fun x h => Nat.le_trans h.2 (by omega)
      have h := requal_any { y.2.1.1 with tu := y.2.2.1, u := y.2.2.2, ty := ty' } s.1 g' s.2 wr (by rw [hTT.size]; simp only [Te.size] at hsz; omega) (by simp only [Te.size] at hsz; omega) ⟨hTy, hTe⟩ hTs (ndI_tys hNN tS) tS (timg_tys hTT tA) tA
      rw [ndI_two hNN (ndI_refl s.1), timg_two hTT (timg_refl s.2)] at h
      exact h)
  have HG5 := Lib.hid hg5
  clear hb5 hBs1 hBs2 hfr hw4 hb4 hs4 hg4 hn4 hb04 hty hg hfix hTI hKe hgs aI rI start hI0 kkS ooS hn5 hg5 hL hLl hKb
  gi_wp2
  refine wpIn_rangeX (by omega) (gf := 19) (lb := #[.pointer (some ⟨Bs, 0, none⟩)]) rfl (enters_of Try.func19 (by kernel_rfl) rfl) HSEQ.out (Below.refl _ _) (fun k hk => (HKb.out k hk).1) (fun _ => rfl)
    I0 (fun _ _ _ _ => False) HI.out.2.1 (fun _ _ _ _ _ h _ => h.elim) HI.out.1 (fun _ _ _ _ _ _ h _ _ => h.elim) HI.out.2.2
    (fun O pre x a' W => ∃ Bx, W.heap[Bx]? = some (Obj.cells (ndC { x.2.1.1 with tu := x.2.2.1, u := x.2.2.2 }).toArray 29) ∧ (x.1 = pre.length ∧ L[pre.length]? = some x.2.1) ∧ (∃ B M, FreshM B M W x.2.1.1 x.2.1.2 x.2.2.1 x.2.2.2) ∧ a' = { tmps := #[(.agg #[.int .i64 x0, .string x1, .int .i64 x2, .int .i64 x3, .int .i64 x4, .slice xu1 xu2 xu3, .slice xv1 xv2 xv3, .int .i64 x8, .int .i64 x9]), .int .i64 i, .pointer (some ⟨w.heap.size, 0, none⟩), undef, .pointer (some ⟨w.heap.size + 1, 0, none⟩), .pointer (some ⟨w3.heap.size, 0, none⟩), .pointer (some ⟨w3.heap.size + 1, 0, none⟩), (.func (.func 19) #[] #[.pointer (some ⟨Bs, 0, none⟩)]), .int .i64 x.1, .pointer (some ⟨Bx, 0, none⟩), undef, undef, undef, undef, undef, (.agg #[.int .i64 x0, .string x1, .int .i64 x2, .int .i64 x3, .int .i64 x4, .slice xu1 xu2 xu3, .slice xv1 xv2 xv3, .int .i64 x8, .int .i64 x9]), .bool false, undef, (.agg #[.int .i64 x0, .string x1, .int .i64 x2, .int .i64 x3, .int .i64 x4, .slice xu1 xu2 xu3, .slice xv1 xv2 xv3, .int .i64 x8, .int .i64 x9]), .slice lA N lc, (.agg #[.int .i64 x0, .string x1, .int .i64 x2, .int .i64 x3, .int .i64 x4, .slice xu1 xu2 xu3, .slice xv1 xv2 xv3, .int .i64 x8, .int .i64 x9]), (.func (.func 19) #[] #[.pointer (some ⟨Bs, 0, none⟩)]), (.func (.func 19) #[] #[.pointer (some ⟨Bs, 0, none⟩)]), .bool false, (.func (.func 19) #[] #[.pointer (some ⟨Bs, 0, none⟩)]), .int .i64 x.1, teVal { x.2.1.1 with tu := x.2.2.1, u := x.2.2.2 }, undef, undef, undef, undef, undef, undef, undef, undef, undef, undef, undef, undef, undef, undef, undef, undef, undef, undef, undef, undef, undef, undef, undef, undef, undef, undef, undef, undef, undef, undef, undef, undef, undef, undef, undef, undef, undef, undef, undef, undef, undef, undef, undef, undef, undef, undef, undef, undef, undef, undef, undef, undef, undef, undef, undef, undef, undef, undef, undef, undef, undef, undef, undef, undef, undef, undef, undef, undef, undef, undef, undef, undef, undef, undef, undef, undef, undef, undef, undef, undef, undef, undef, undef, undef, undef, undef, undef, undef, undef, undef], defers := [] })
    (fun O pre x a' s W W' row hs hg hr => by
      obtain ⟨Bx, hc, hp, ⟨B, M, h2⟩, ha⟩ := hs
      refine ⟨Bx, (hg.block Bx (Array.getElem?_eq_some_iff.1 hc).1 fun e => ?_).trans hc, hp, ⟨B, M, h2.own hg fun r e => (hr r e).2⟩, ha⟩
      obtain ⟨o, ho, hoc⟩ := (hr Bx e.symm).2
      rw [hc] at ho
      cases ho
      cases hoc) ?assign ?body ?done ?stop
  case assign =>
    rintro l2 O pre x W Kc hi ⟨Jh, hJh, hi1, ⟨sg, hseg⟩, W2, hj2, hb2, hbs, hfm, hbO⟩ hsz hO hK
    obtain ⟨k, ⟨⟨z0, z1, z2, z3, z4, ⟨zu1, zu2, zu3⟩, z6, ⟨zv1, zv2, zv3⟩, z8, z9⟩, zp⟩, ⟨e1, e2, e3⟩, ⟨o1, o2, o3⟩⟩ := x
    have hal : Below W.heap.size W (W.alloc (Obj.cells #[.int .i64 z0, .string z1, .int .i64 z2, .int .i64 z3, .int .i64 z4, .slice e1 e2 e3, .slice o1 o2 o3, .int .i64 z8, .int .i64 z9] 29)) := (Below.refl _ _).alloc (Nat.le_refl _) _
    have HALL := Lib.hid (And.intro (HI.out.1 _ _ _ _ _ hi (Stp.of_below hal) fun _ _ h => h) (hfm.below hal))
    have HSG := Lib.hid (show L[pre.length]? = some ((⟨z0, z1, z2, z3, z4, (zu1, zu2, zu3), z6, (zv1, zv2, zv3), z8, z9⟩ : Nd), zp) by
      rw [← hseg, List.getElem?_append_right (by simp)]
      simp)
    have HK1 := Lib.hid hi1
    dsimp only [gvE, teVal, slv] at hK ⊢
    clear hi hseg hj2 hb2 hfm hbO hi1
    gi_wp2
    exact hK _ _ (Rec.of_below hal (by omega)) (Kx.of_below hal (fun k hk => by have := HKb.out k hk; omega) fun k hk => (hO k hk).2) HALL.out.1 ⟨W.heap.size, heap_alloc_new W _, ⟨HK1.out, HSG.out⟩, ⟨_, _, HALL.out.2⟩, rfl⟩
  case body =>
    rintro l2 O pre x a' W6 hl hi hsz hO ⟨Bx, hc, ⟨hx1, hxL⟩, hfm, rfl⟩
    rw [HI0.out] at hi
    obtain ⟨hkk, hOb, hbn⟩ := hi
    obtain ⟨lb, loff, oo, hlA, hel⟩ := HEL.out W6 pre.length x hkk hxL hfm
    subst hlA
    obtain ⟨hno, _⟩ := hel W6 (Below.refl _ _)
    obtain ⟨_, hcl⟩ := hel W6.drew (Below.refl _ W6).drew
    obtain ⟨j, hj⟩ : ∃ j, pre.length = j := ⟨_, rfl⟩
    have hjN : j < N := by
      have := (List.getElem?_eq_some_iff.1 hxL).1
      rw [HLL.out] at this
      omega
    rw [hj] at hx1 hbn hno
    obtain ⟨k, ⟨⟨z0, z1, z2, z3, z4, ⟨zu1, zu2, zu3⟩, z6, ⟨zv1, zv2, zv3⟩, z8, z9⟩, zp⟩, ⟨e1, e2, e3⟩, ⟨o1, o2, o3⟩⟩ := x
    obtain rfl : k = (j : Int) := hx1
    obtain ⟨y0, y1, y2, y3, y4, ⟨yu1, yu2, yu3⟩, y6, ⟨yv1, yv2, yv3⟩, y8, y9⟩ := oo
    obtain ⟨a0, a1, a2, a3, a4, a5, a6, a7, a8⟩ := NdAt.of_block hc
    obtain ⟨d0, d1, d2, d3, d4, d5, d6, d7, d8⟩ := hno
    dsimp only [gvE, teVal, slv] at a0 a1 a2 a3 a4 a5 a6 a7 a8 d5 d6 hcl ⊢
    simp only [Nat.zero_add] at a0 a1 a2 a3 a4 a5 a6 a7 a8
    have hgl := (hkk.keep w3.heap.size (by constructor <;> omega)).trans HG5.out
    have bl : W6.cell? ⟨w3.heap.size, 0, none⟩ = some (.slice (some ⟨lb, loff, none⟩) N lc) := Boxed.cell hgl
    have bn := hbn.cell
    have HCL := Lib.hid hcl
    have HPJ := Lib.hid (show (pre ++ [((j : Int), ((⟨z0, z1, z2, z3, z4, (zu1, zu2, zu3), z6, (zv1, zv2, zv3), z8, z9⟩ : Nd), zp), ((e1, e2, e3) : Sl), ((o1, o2, o3) : Sl))]).length = j + 1 from by simp [hj])
    have HALL := Lib.hid (And.intro hkk (And.intro hOb (And.intro hbn hO)))
    have hmix : Try.prog.follows Departure.mixedOrders = true := by kernel_rfl
    have hjn : ((j : Int) != (j : Int)) = false := by simp
    have hn6 : w3.heap.size + 1 < W6.heap.size := hbn.lt
    clear hcl hel hkk hOb hbn hO hc hxL hfm hj hgl
    gi_wp2
    gi_region_with_o (refine ⟨trivial, ?_⟩; gi_at_call 8; refine (CallsIn.inRound l2 (callsIn_wide.2 HCL.out)).mono ?_; rintro e w6 ⟨rfl, hb6⟩)
    all_goals
      obtain ⟨hkk, hOb, hbn, hO⟩ := HALL.out
      have hb66 : Below W6.heap.size W6 w6 := (Below.refl _ W6).drew.trans hb6
      have hbn6 : Boxed w6 (w3.heap.size + 1) 3 (.int .i64 j) := (hb66.block _ hn6).trans hbn
      have bn6 := hbn6.cell
      have bf6 := hbn6.frozen
      have HB6 := Lib.hid (And.intro hb66 hbn6)
      clear hb6 hb66 hbn6 hkk hOb hbn hO
      gi_wp2
      obtain ⟨hkk, hOb, hbn, hO⟩ := HALL.out
      obtain ⟨hb66, hbn6⟩ := HB6.out
      have gs := grownBy_setCell' w6 (w3.heap.size + 1) (.int .i64 ((j : Int) + 1))
      have hWW : ∀ q, q < W6.heap.size → q ≠ w3.heap.size + 1 → (w6.setCell ⟨w3.heap.size + 1, 0, none⟩ (.int .i64 ((j : Int) + 1))).heap[q]? = W6.heap[q]? := fun q hq hne => (gs.block q (by have := hb66.size; omega) (by simp; exact hne)).trans (hb66.block q hq)
      have hsz9 : W6.heap.size ≤ (w6.setCell ⟨w3.heap.size + 1, 0, none⟩ (.int .i64 ((j : Int) + 1))).heap.size := Nat.le_trans hb66.size gs.size
      refine ⟨fun q hq => hWW q (by omega) (by omega), ⟨⟨gs.os.trans hb66.os, gs.tape.trans hb66.tape, gs.output.trans hb66.output, hsz9, fun q hq => hWW q (by have := HKb.out q hq; have := hkk.size; omega) (HKb.out q hq).2⟩, fun q hq => hWW q (hO q hq).2 (by have := (hO q hq).1; omega)⟩, ?_⟩
      rw [HI0.out]
      refine ⟨hkk.trans ⟨gs.os.trans hb66.os, gs.tape.trans hb66.tape, gs.output.trans hb66.output, hsz9, fun q hq => hWW q (by have := hkk.size; omega) hq.2⟩, hOb, ?_⟩
      rw [HPJ.out]
      exact hbn6.set _
  case done =>
    rintro D O xs W hD hxs hi hDe hK
    subst hDe
    rw [HI0.out] at hi
    obtain ⟨hkk, hOb, hbn⟩ := hi
    have hxl : xs.length = N := by rw [← HLL.out, ← hxs, List.length_map]
    rw [hxl] at hbn
    have hBW : Below W0.heap.size W0 W := HB05.out.trans ⟨hkk.os, hkk.tape, hkk.output, hkk.size, fun q hq => hkk.keep q (by constructor <;> omega)⟩
    have hg5 : Boxed W w3.heap.size 25 (.slice lA N lc) := (hkk.keep w3.heap.size (by constructor <;> omega)).trans HG5.out
    obtain ⟨lb, loff, lcap, hlv, hlc1, hlc2, hlt, hlC⟩ := HRD.out.2.resolve_left (by rintro ⟨h, _⟩; omega)
    injection hlv with hlA _ hlcc
    subst hlA; subst hlcc
    have hPL : (one_ ⟨x0, x1, x2, x3, x4, (xu1, xu2, xu3), x6, (xv1, xv2, xv3), x8, x9⟩ F).pre.length = N := by rw [Te.pre_len, ← HN.out]; simp [Te.size]
    have hszW := hkk.size
    -- the list's terms, wherever
    have HL := Lib.hid (show ∀ (j : Nat) (s : Tm), (one_ ⟨x0, x1, x2, x3, x4, (xu1, xu2, xu3), x6, (xv1, xv2, xv3), x8, x9⟩ F).pre[j]? = some s → ∀ wr, Below W.heap.size W wr → NdAt wr lb (loff + j * 9) s.1 from fun j s hs wr hbr => NdAt.of_cells fun q u hu => by
      have hi : q < 9 := (List.getElem?_eq_some_iff.1 hu).1
      have h1 : w3.cell? ⟨lb, loff + (j * 9 + q), none⟩ = some u := hlC (j * 9 + q) u (by
        rw [preC, flat9 _ _ _ hi]
        have hs' : ((⟨x0, x1, x2, x3, x4, (xu1, xu2, xu3), x6, (xv1, xv2, xv3), x8, x9⟩, F) :: F.pre : List Tm)[j]? = some s := by
          have : (one_ ⟨x0, x1, x2, x3, x4, (xu1, xu2, xu3), x6, (xv1, xv2, xv3), x8, x9⟩ F).pre = ((⟨x0, x1, x2, x3, x4, (xu1, xu2, xu3), x6, (xv1, xv2, xv3), x8, x9⟩, F) :: F.pre : List Tm) := by simp [Te.pre]
          rw [← this]; exact hs
        rw [hs']
        exact hu)
      have h2 : wr.heap[lb]? = w3.heap[lb]? := by
        refine (hbr.block lb (by omega)).trans ((hkk.keep lb (by constructor <;> omega)).trans ?_)
        exact HB35.out.block lb hlt
      rw [show loff + j * 9 + q = loff + (j * 9 + q) by omega]
      exact (World.cell?_of_block h2).trans h1)
    have HEQ := Lib.hid (show ∀ (s : Tm) (tu u : Sl) (B M : Nat) (w7 : World), s ∈ (one_ ⟨x0, x1, x2, x3, x4, (xu1, xu2, xu3), x6, (xv1, xv2, xv3), x8, x9⟩ F).pre → Below W.heap.size W w7 → FreshM B M w7 s.1 s.2 tu u → ∀ wr, Below w7.heap.size w7 wr → Calls Try.prog 8 #[teVal { s.1 with tu := tu, u := u }, teVal s.1] wr fun e w' => e = .returned (.bool true) ∧ Below wr.heap.size wr w' from fun s tu u B M w7 hs h7 hfm wr hbr => by
      obtain ⟨ty', g', hty', hg', hTy, hTe⟩ := (hfm.below hbr).now
      have hTs : TmL wr.heap.size wr s := TeL.pre (f := one_ ⟨x0, x1, x2, x3, x4, (xu1, xu2, xu3), x6, (xv1, xv2, xv3), x8, x9⟩ F) ⟨HLX.out wr (hBW.trans ((h7.trans (hbr.mono h7.size)).mono hBW.size)), trivial⟩ s hs
      have hsz := Te.size_pre (one_ ⟨x0, x1, x2, x3, x4, (xu1, xu2, xu3), x6, (xv1, xv2, xv3), x8, x9⟩ F) s hs
      have hok := Te.all_pre (f := one_ ⟨x0, x1, x2, x3, x4, (xu1, xu2, xu3), x6, (xv1, xv2, xv3), x8, x9⟩ F) (P := OkN) ⟨HGR.out.2.1, HGR.out.2.2, trivial⟩ s hs
      have hF2 := HGR.out.1
      have hNN : NdI s.1 { s.1 with tu := tu, u := u, ty := ty' } := ⟨rfl, rfl, rfl, rfl, rfl, hty', rfl, rfl⟩
      have tS : s.1.ty.size ≤ 1000000 := Nat.le_trans hok.1.2 (by omega)
      have tA : s.2.all (fun x => x.ty.size ≤ 1000000) := Te.all_mono hok.2 fun x h => Nat.le_trans h.2 (by omega)
      have h := requal_any { s.1 with tu := tu, u := u, ty := ty' } s.1 g' s.2 wr (by rw [hg'.size]; simp only [Te.size] at hsz; omega) (by simp only [Te.size] at hsz; omega) ⟨hTy, hTe⟩ hTs (ndI_tys hNN tS) tS (timg_tys hg' tA) tA
      rw [ndI_two hNN (ndI_refl s.1), timg_two hg' (timg_refl s.2)] at h
      exact h)
    have hnt := HNT.out HGR.out W hBW
    have hsp := fun wr (hb : Below W.heap.size W wr) => HSP.out HGR.out.1 wr (hBW.trans (hb.mono hBW.size))
    have hne := fun wr (hb : Below W.heap.size W wr) => HNE.out HGR.out.1 wr (hBW.trans (hb.mono hBW.size))
    have hrn := fun wr (hb : Below W.heap.size W wr) => HRN.out HGR.out.1 wr (hBW.trans (hb.mono hBW.size))
    rw [one_nest] at hne
    obtain ⟨NB, hNB⟩ : ∃ NB, (nestE (⟨x0, x1, x2, x3, x4, (xu1, xu2, xu3), x6, (xv1, xv2, xv3), x8, x9⟩, F) && F.pre.all nestE) = NB := ⟨_, rfl⟩
    rw [hNB] at hne hrn
    rw [HN.out] at hsp
    obtain ⟨PR, hPR⟩ : ∃ PR, (one_ ⟨x0, x1, x2, x3, x4, (xu1, xu2, xu3), x6, (xv1, xv2, xv3), x8, x9⟩ F).pre = PR := ⟨_, rfl⟩
    rw [hPR] at hPL HL HEQ hnt hsp
    have HNT2 := Lib.hid hnt
    have HSP2 := Lib.hid hsp
    have HNE2 := Lib.hid hne
    have HRN2 := Lib.hid hrn
    have HPL := Lib.hid hPL
    have HTX := Lib.hid (show ∀ wr, Below W.heap.size W wr → (wr.cell? ⟨w.heap.size, 0, none⟩ = some (.int .i64 x0) ∧ wr.cell? ⟨w.heap.size, 1, none⟩ = some (.string x1) ∧ wr.cell? ⟨w.heap.size, 2, none⟩ = some (.int .i64 x2) ∧ wr.cell? ⟨w.heap.size, 3, none⟩ = some (.int .i64 x3) ∧ wr.cell? ⟨w.heap.size, 4, none⟩ = some (.int .i64 x4) ∧ wr.cell? ⟨w.heap.size, 5, none⟩ = some (.slice xu1 xu2 xu3) ∧ wr.cell? ⟨w.heap.size, 6, none⟩ = some (.slice xv1 xv2 xv3) ∧ wr.cell? ⟨w.heap.size, 7, none⟩ = some (.int .i64 x8) ∧ wr.cell? ⟨w.heap.size, 8, none⟩ = some (.int .i64 x9)) ∧
        (Boxed wr (w.heap.size + 1) 4 (.bool false) ∧ Boxed wr w3.heap.size 25 (.slice (some ⟨lb, loff, none⟩) N lc) ∧ Boxed wr (w3.heap.size + 1) 3 (.int .i64 N) ∧ wr.heap[w5.heap.size]? = some (.deferred (some []))) from fun wr hb => by
      have hbx := hBW.trans (hb.mono hBW.size)
      have h := NX.out wr hbx
      unfold NdAt at h
      simp only [Nat.zero_add, slv] at h
      exact ⟨h.1, h.2, (hb.block _ hg5.lt).trans hg5, (hb.block _ hbn.lt).trans hbn, (hb.block _ (Array.getElem?_eq_some_iff.1 hK).1).trans hK⟩)
    have HFN := Lib.hid (show Below w.heap.size w W from HX0.out.2.2.2.trans (hBW.mono HX0.out.2.2.2.size))
    have hwl : w.heap.size + 2 ≤ W.heap.size := by omega
    have hwl5 : w5.heap.size < W.heap.size := (Array.getElem?_eq_some_iff.1 hK).1
    have HFI := Lib.hid (show Below w.heap.size w W ∧ w5.heap.size < W.heap.size ∧ w.heap.size + 1 < w5.heap.size from ⟨HFN.out, hwl5, by omega⟩)
    have hlbW : lb < W.heap.size := by omega
    obtain ⟨⟨c0, c1, c2, c3, c4, c5, c6, c7, c8⟩, b0, b1, b2, _⟩ := HTX.out W (Below.refl _ _)
    clear hnt hsp hne hrn hPL hNB hPR hxs hkk hOb hbn hxl hg5 hlC hK hBW HNT HSP HNE HRN HPRE HEL HLL HRD HI0 HI HN HG5 HFR HW4 HSEQ b0 b1 b2
    gi_wp2
    refine ⟨trivial, ?_⟩
    refine (callsIn_wide.2 HNT2.out).mono ?_
    rintro e w7 ⟨hb7, hcase⟩
    have HB7 := Lib.hid hb7
    clear c0 c1 c2 c3 c4 c5 c6 c7 c8 HNT2 hb7
    rcases hcase with ⟨t, ⟨e1, e2, e3⟩, ⟨o1, o2, o3⟩, B, M, hi0, hit, rfl, hBB, hfm⟩ | ⟨hout, rfl⟩
    · obtain ⟨k, rfl⟩ := Int.eq_ofNat_of_zero_le hi0
      rw [Int.toNat_natCast] at hit
      have hkN : k < N := by rw [← HPL.out]; exact (List.getElem?_eq_some_iff.1 hit).1
      have heq := HEQ.out t _ _ B M w7 (List.mem_of_getElem? hit) HB7.out hfm
      have hnd := HL.out k t hit
      obtain ⟨⟨z0, z1, z2, z3, z4, ⟨zu1, zu2, zu3⟩, z6, ⟨zv1, zv2, zv3⟩, z8, z9⟩, zp⟩ := t
      dsimp only [teVal, slv] at heq hnd ⊢
      have HEQ2 := Lib.hid heq
      have HND := Lib.hid hnd
      have g0 : decide ((0 : Int) ≤ (k : Int)) = true := decide_eq_true (by omega)
      have g1 : decide ((k : Int) < (N : Int)) = true := decide_eq_true (by omega)
      obtain ⟨w8, hw8⟩ : ∃ w8, (w7.alloc (Obj.cells #[.int .i64 z0, .string z1, .int .i64 z2, .int .i64 z3, .int .i64 z4, .slice e1 e2 e3, .slice o1 o2 o3, .int .i64 z8, .int .i64 z9] 29)).alloc (Obj.cells #[.int .i64 0, .string ⟨#[]⟩, .int .i64 0, .int .i64 0, .int .i64 0, .slice none 0 0, .slice none 0 0, .int .i64 0, .int .i64 0] 29) = w8 := ⟨_, rfl⟩
      have hb8 : Below w7.heap.size w7 w8 := by rw [← hw8]; exact ((Below.refl _ _).alloc (Nat.le_refl _) _).alloc (by simp) _
      have hs8 : w8.heap.size = w7.heap.size + 2 := by rw [← hw8]; simp
      have hx8 : w8.heap[w7.heap.size]? = some (Obj.cells #[.int .i64 z0, .string z1, .int .i64 z2, .int .i64 z3, .int .i64 z4, .slice e1 e2 e3, .slice o1 o2 o3, .int .i64 z8, .int .i64 z9] 29) := by rw [← hw8]; exact (Below.heap_alloc _ _ _ (by simp)).trans (heap_alloc_new w7 _)
      have hy8 : w8.heap[w7.heap.size + 1]? = some (Obj.cells #[.int .i64 0, .string ⟨#[]⟩, .int .i64 0, .int .i64 0, .int .i64 0, .slice none 0 0, .slice none 0 0, .int .i64 0, .int .i64 0] 29) := by
        rw [← hw8]
        have := heap_alloc_new (w7.alloc (Obj.cells #[.int .i64 z0, .string z1, .int .i64 z2, .int .i64 z3, .int .i64 z4, .slice e1 e2 e3, .slice o1 o2 o3, .int .i64 z8, .int .i64 z9] 29)) (Obj.cells #[.int .i64 0, .string ⟨#[]⟩, .int .i64 0, .int .i64 0, .int .i64 0, .slice none 0 0, .slice none 0 0, .int .i64 0, .int .i64 0] 29)
        rwa [World.size_alloc] at this
      have HW8 := Lib.hid hw8
      have bl := (HTX.out w8 (HB7.out.trans (hb8.mono HB7.out.size))).2.2.1.cell
      rw [← hw8] at bl
      obtain ⟨n0, n1, n2, n3, n4, n5, n6, n7, n8⟩ := HND.out w8 (HB7.out.trans (hb8.mono HB7.out.size))
      dsimp only [slv] at n5 n6
      rw [← hw8] at n0 n1 n2 n3 n4 n5 n6 n7 n8
      obtain ⟨r0, r1, r2, r3, r4, r5, r6, r7, r8, y0, y1, y2, y3, y4, y5, y6, y7, y8⟩ := ert0_cells hy8
      rw [← hw8] at r0 r1 r2 r3 r4 r5 r6 r7 r8 y0 y1 y2 y3 y4 y5 y6 y7 y8
      obtain ⟨w9, hw9⟩ : ∃ w9, (w7.alloc (Obj.cells #[.int .i64 z0, .string z1, .int .i64 z2, .int .i64 z3, .int .i64 z4, .slice e1 e2 e3, .slice o1 o2 o3, .int .i64 z8, .int .i64 z9] 29)).alloc (Obj.cells #[.int .i64 z0, .string z1, .int .i64 z2, .int .i64 z3, .int .i64 z4, .slice zu1 zu2 zu3, .slice zv1 zv2 zv3, .int .i64 z8, .int .i64 z9] 29) = w9 := ⟨_, rfl⟩
      have hb9 : Below w7.heap.size w7 w9 := by rw [← hw9]; exact ((Below.refl _ _).alloc (Nat.le_refl _) _).alloc (by simp) _
      have hs9 : w9.heap.size = w7.heap.size + 2 := by rw [← hw9]; simp
      have hx9 : w9.heap[w7.heap.size]? = some (Obj.cells #[.int .i64 z0, .string z1, .int .i64 z2, .int .i64 z3, .int .i64 z4, .slice e1 e2 e3, .slice o1 o2 o3, .int .i64 z8, .int .i64 z9] 29) := by rw [← hw9]; exact (Below.heap_alloc _ _ _ (by simp)).trans (heap_alloc_new w7 _)
      have hy9 : w9.heap[w7.heap.size + 1]? = some (Obj.cells #[.int .i64 z0, .string z1, .int .i64 z2, .int .i64 z3, .int .i64 z4, .slice zu1 zu2 zu3, .slice zv1 zv2 zv3, .int .i64 z8, .int .i64 z9] 29) := by
        rw [← hw9]
        have := heap_alloc_new (w7.alloc (Obj.cells #[.int .i64 z0, .string z1, .int .i64 z2, .int .i64 z3, .int .i64 z4, .slice e1 e2 e3, .slice o1 o2 o3, .int .i64 z8, .int .i64 z9] 29)) (Obj.cells #[.int .i64 z0, .string z1, .int .i64 z2, .int .i64 z3, .int .i64 z4, .slice zu1 zu2 zu3, .slice zv1 zv2 zv3, .int .i64 z8, .int .i64 z9] 29)
        rwa [World.size_alloc] at this
      have HW9 := Lib.hid hw9
      have HF9 := Lib.hid (And.intro hx9 (And.intro hy9 (And.intro hb9 hs9)))
      clear hw9 hx9 hy9 hb9 hs9 hb8 hs8 hx8 hy8 hw8 heq hnd hfm hBB hit hi0
      gi_wp2
      rw [HW9.out]
      clear bl n0 n1 n2 n3 n4 n5 n6 n7 n8 r0 r1 r2 r3 r4 r5 r6 r7 r8 y0 y1 y2 y3 y4 y5 y6 y7 y8
      obtain ⟨hx9, hy9, hb79, hs9⟩ := HF9.out
      have HB9 := Lib.hid (show Below W.heap.size W w9 from HB7.out.trans (hb79.mono HB7.out.size))
      have h79 : W.heap.size ≤ w7.heap.size := HB7.out.size
      clear hx9 hy9 hb79
      gi_loopw [13, 14] (fun t13 t14 wr => ∃ q : Nat, q ≤ N ∧ t14 = .int .i64 q ∧ wr.ownsRow w9.heap.size 27 2 t13 q (spnC (PR.take q)) ∧ Below w9.heap.size w9 wr) (fun _ t _ => N - (intOf t).toNat)
      case atStart => exact ⟨0, Nat.zero_le _, rfl, ⟨by simp [spnC], .inl ⟨rfl, by simp⟩⟩, Below.refl _ _⟩
      case round =>
        obtain ⟨q, hq, rfl, hown, hbr⟩ := hrel
        have hbW := HB9.out.trans (hbr.mono HB9.out.size)
        have bl := (HTX.out wr hbW).2.2.1.cell
        have hzr := hbr.size
        by_cases hqN : q < N
        · obtain ⟨s, hs⟩ : ∃ s, PR[q]? = some s := ⟨PR[q]'(by rw [HPL.out]; exact hqN), List.getElem?_eq_getElem _⟩
          have hpt : PR.take (q + 1) = PR.take q ++ [s] := by rw [List.take_add_one, hs]; rfl
          obtain ⟨Av, cv, rfl, hk1, hk2⟩ := own_form hown
          obtain ⟨i0, hi0', hz0', hz1', hz2'⟩ := info_parts spInfo
          have n7 := (HL.out q s hs wr hbW).2.2.2.2.2.2.2.1
          have n8 := (HL.out q s hs wr hbW).2.2.2.2.2.2.2.2
          obtain ⟨sa, hsa⟩ : ∃ sa, s.1.a = sa := ⟨_, rfl⟩
          obtain ⟨sb, hsb⟩ : ∃ sb, s.1.b = sb := ⟨_, rfl⟩
          rw [hsa] at n7
          rw [hsb] at n8
          have hpc : spnC (PR.take (q + 1)) = spnC (PR.take q) ++ [.int .i64 sa, .int .i64 sb] := by rw [hpt, spnC_app, ← hsa, ← hsb]; rfl
          obtain ⟨W7, hW7⟩ : ∃ W7, W7 = wr.alloc (.cells #[.int .i64 sa, .int .i64 sb] 27) := ⟨_, rfl⟩
          have own1 : W7.ownsRow w9.heap.size 27 2 (.slice Av q cv) q (spnC (PR.take q)) := by rw [hW7]; exact hown.alloc _
          have rd1 : Rd W7 2 (.slice (some ⟨wr.heap.size, 0, none⟩) 1 1) 1 [.int .i64 sa, .int .i64 sb] := by
            rw [hW7]; exact rd_new wr [.int .i64 sa, .int .i64 sb] 27 2 1 rfl (by unfold maxLen; omega)
          obtain ⟨v1, w1, hrun, hown1, hg1, _⟩ := run_append_rd (P := Try.prog) W7 w9.heap.size 39 39 27 i0 _ 2 16 Try.underlying39 hi0' hz0' hz1' hz2' rfl (by omega) (.slice Av q cv) q _ own1 _ 1 _ rd1 (by simp [Value.oneCell']) (by unfold maxLen; omega) (by omega) (by rw [hW7]; simp; omega)
          have hrun2 : (app_ #[39, 39] 39 #[.slice Av q cv, .slice (some ⟨wr.heap.size, 0, none⟩) 1 1]).run Try.prog W7 = .ok v1 w1 := hrun
          rw [hW7] at hrun2
          have HO := Lib.hid (show w1.ownsRow w9.heap.size 27 2 v1 (q + 1) (spnC (PR.take (q + 1))) ∧ Below w9.heap.size w9 w1 from by
            rw [hpc]
            refine ⟨hown1, hbr.trans ?_⟩
            have h2 : Below w9.heap.size wr W7 := by rw [hW7]; exact (Below.refl _ _).alloc (by omega) _
            exact h2.trans ((Below.refl _ _).grown hg1 (by rw [hW7]; simp; omega) (fun k e => (own1.lt k e).1))
            )
          clear hrun hown1 hg1 own1 rd1 hown hW7 hpc hpt hs hsa hsb hbr hbW
          gi_wp2
          go_roundw
          case rel => exact ⟨q + 1, by omega, by go_num, HO.out.1, HO.out.2⟩
          case measure => simp [intOf]; omega
        · obtain rfl : q = N := by omega
          obtain ⟨Av, cv, rfl, hk1, hk2⟩ := own_form hown
          have HRW := Lib.hid (show ∀ W', Below wr.heap.size wr W' → Rd W' 2 (.slice Av q cv) q (spnC PR) from fun W' h => by
            have := Rd.of_own hown
            rw [show PR.take q = PR by rw [← HPL.out]; exact List.take_length] at this
            exact this.below h)
          have HBR := Lib.hid hbW
          have HBQ := Lib.hid (show Below w9.heap.size w9 wr from hbr)
          clear hown hbW hbr
          gi_wp2
          have HAA := Lib.hid (show ∀ W', LS wr W' → Gives Try.prog 5 #[] W' (fun v _ => v = .bool true) from fun W' _ => gives_of (HA.out W'))
          have HEE := Lib.hid (show ∀ W', LS wr W' → Gives Try.prog 8 #[.agg #[.int .i64 z0, .string z1, .int .i64 z2, .int .i64 z3, .int .i64 z4, .slice e1 e2 e3, .slice o1 o2 o3, .int .i64 z8, .int .i64 z9], .agg #[.int .i64 z0, .string z1, .int .i64 z2, .int .i64 z3, .int .i64 z4, .slice zu1 zu2 zu3, .slice zv1 zv2 zv3, .int .i64 z8, .int .i64 z9]] W' (fun v _ => v = .bool true) from fun W' hW => gives_of (HEQ2.out W' (HF9.out.2.2.1.trans ((HBQ.out.trans (Below.mono hW HBQ.out.size)).mono HF9.out.2.2.1.size))))
          have HSS := Lib.hid (show ∀ W', LS wr W' → Gives Try.prog 11 #[(.agg #[.int .i64 x0, .string x1, .int .i64 x2, .int .i64 x3, .int .i64 x4, .slice xu1 xu2 xu3, .slice xv1 xv2 xv3, .int .i64 x8, .int .i64 x9])] W' (fun v W'' => ∃ A c, v = .slice A q c ∧ Rd W'' 2 (.slice A q c) q (spnC PR)) from fun W' hW => (HSP2.out W' (HBR.out.trans (Below.mono hW HBR.out.size))).mono (by
            rintro e w' ⟨v, rfl, hrd, hb⟩
            obtain ⟨A, c, rfl⟩ : ∃ A c, v = .slice A q c := by
              rcases hrd.2 with ⟨h0, _⟩ | ⟨b, off, cap, h, _⟩
              · omega
              · exact ⟨_, cap, h⟩
            exact ⟨_, rfl, ⟨A, c, rfl, hrd⟩, hb⟩))
          have HNN := Lib.hid (show ∀ W', LS wr W' → Gives Try.prog 12 #[(.agg #[.int .i64 x0, .string x1, .int .i64 x2, .int .i64 x3, .int .i64 x4, .slice xu1 xu2 xu3, .slice xv1 xv2 xv3, .int .i64 x8, .int .i64 x9])] W' (fun v _ => v = .bool NB) from fun W' hW => gives_of (HNE2.out W' (HBR.out.trans (Below.mono hW HBR.out.size))))
          have HRR := Lib.hid (show ∀ W', LS wr W' → Gives Try.prog 13 #[(.agg #[.int .i64 x0, .string x1, .int .i64 x2, .int .i64 x3, .int .i64 x4, .slice xu1 xu2 xu3, .slice xv1 xv2 xv3, .int .i64 x8, .int .i64 x9])] W' (fun v _ => v = .bool NB) from fun W' hW => gives_of (HRN2.out W' (HBR.out.trans (Below.mono hW HBR.out.size))))
          have HSM := Lib.hid (show ∀ (W' : World) (A : Option Addr) (c : Nat), LS wr W' → Rd W' 2 (.slice A q c) q (spnC PR) → Gives Try.prog 10 #[.slice A q c, .slice Av q cv] W' (fun v _ => v = .bool true) from fun W' A c hW hrd => gives_of (rsame_spans W' _ _ q PR HPL.out.symm (by omega) hrd (HRW.out W' hW) (by omega)))
          have HEX := Lib.hid (show ∀ W', LSX wr (w.heap.size + 1) W' → (W'.cell? ⟨w.heap.size, 0, none⟩ = some (.int .i64 x0) ∧ W'.cell? ⟨w.heap.size, 1, none⟩ = some (.string x1) ∧ W'.cell? ⟨w.heap.size, 2, none⟩ = some (.int .i64 x2) ∧ W'.cell? ⟨w.heap.size, 3, none⟩ = some (.int .i64 x3) ∧ W'.cell? ⟨w.heap.size, 4, none⟩ = some (.int .i64 x4) ∧ W'.cell? ⟨w.heap.size, 5, none⟩ = some (.slice xu1 xu2 xu3) ∧ W'.cell? ⟨w.heap.size, 6, none⟩ = some (.slice xv1 xv2 xv3) ∧ W'.cell? ⟨w.heap.size, 7, none⟩ = some (.int .i64 x8) ∧ W'.cell? ⟨w.heap.size, 8, none⟩ = some (.int .i64 x9)) ∧ W'.cell? ⟨w3.heap.size, 0, none⟩ = some (.slice (some ⟨lb, loff, none⟩) q lc) ∧ W'.cell? ⟨w3.heap.size + 1, 0, none⟩ = some (.int .i64 q) from fun W' hW => by
            obtain ⟨W1, h1, hj⟩ := hW.blk
            have h := HTX.out W1 (HBR.out.trans (Below.mono h1 HBR.out.size))
            obtain ⟨q0, q1, q2, q3, q4, q5, q6, q7, q8⟩ := h.1
            exact ⟨⟨(World.cell?_of_block (hj w.heap.size (by omega))).trans q0, (World.cell?_of_block (hj w.heap.size (by omega))).trans q1, (World.cell?_of_block (hj w.heap.size (by omega))).trans q2, (World.cell?_of_block (hj w.heap.size (by omega))).trans q3, (World.cell?_of_block (hj w.heap.size (by omega))).trans q4, (World.cell?_of_block (hj w.heap.size (by omega))).trans q5, (World.cell?_of_block (hj w.heap.size (by omega))).trans q6, (World.cell?_of_block (hj w.heap.size (by omega))).trans q7, (World.cell?_of_block (hj w.heap.size (by omega))).trans q8⟩, (World.cell?_of_block (hj w3.heap.size (by omega))).trans h.2.2.1.cell, (World.cell?_of_block (hj (w3.heap.size + 1) (by omega))).trans h.2.2.2.1.cell⟩)
          have HEY := Lib.hid (show ∀ W', LSX wr (w.heap.size + 1) W' → NdAt W' w7.heap.size 0 ⟨z0, z1, z2, z3, z4, (e1, e2, e3), z6, (o1, o2, o3), z8, z9⟩ ∧ NdAt W' (w7.heap.size + 1) 0 ⟨z0, z1, z2, z3, z4, (zu1, zu2, zu3), z6, (zv1, zv2, zv3), z8, z9⟩ from fun W' hW => by
            obtain ⟨W1, h1, hj⟩ := hW.blk
            have hb := HBQ.out.trans (Below.mono h1 HBQ.out.size)
            exact ⟨NdAt.of_block (T := 29) ((hj _ (by omega)).trans <| (hb.block _ (by have := HF9.out.2.2.2; omega)).trans HF9.out.1), NdAt.of_block (T := 29) ((hj _ (by omega)).trans <| (hb.block _ (by have := HF9.out.2.2.2; omega)).trans HF9.out.2.1)⟩)
          refine wpIn_noPanic ?_
          refine wpI_region_held (S := LSX wr (w.heap.size + 1)) (by kernel_rfl) ?_
          change wpAnyHI _ _ _ _ _ _ 38 (List.replicate 38 false).toArray _ wr.drew
          simp only [List.replicate_succ, List.replicate_zero]
          have HS := Lib.hid (show LS wr wr.drew from Below.drew (Below.refl _ _))
          generalize wr.drew = wa at *
          refine iny_take (i := 0) (some 80) (.int .i64 q) rfl (by rfl) (by kernel_rfl) (by kernel_rfl) (by kernel_rfl) (fun _ _ _ h => h) (Or.inl ⟨by kernel_rfl, (fun W hw => by obtain ⟨⟨c0, c1, c2, c3, c4, c5, c6, c7, c8⟩, bl, bn⟩ := HEX.out W hw; clear hw; go_simp)⟩) (HS.out.x _) ?_
          simp only [Act.put, List.setIfInBounds_toArray, List.set_cons_zero, List.set_cons_succ]
          refine iny_take (i := 1) (some 81) (.slice (some ⟨lb, loff, none⟩) q lc) rfl (by rfl) (by kernel_rfl) (by kernel_rfl) (by kernel_rfl) (fun _ _ _ h => h) (Or.inl ⟨by kernel_rfl, (fun W hw => by obtain ⟨⟨c0, c1, c2, c3, c4, c5, c6, c7, c8⟩, bl, bn⟩ := HEX.out W hw; clear hw; go_simp)⟩) (HS.out.x _) ?_
          simp only [Act.put, List.setIfInBounds_toArray, List.set_cons_zero, List.set_cons_succ]
          refine iny_take (i := 2) (some 82) (.int .i64 q) rfl (by rfl) (by kernel_rfl) (by kernel_rfl) (by kernel_rfl) (fun _ _ _ h => h) (Or.inl ⟨by kernel_rfl, (fun W hw => by clear hw; go_simp)⟩) (HS.out.x _) ?_
          simp only [Act.put, List.setIfInBounds_toArray, List.set_cons_zero, List.set_cons_succ]
          refine iny_take (i := 3) (some 83) (.bool true) rfl (by rfl) (by kernel_rfl) (by kernel_rfl) (by kernel_rfl) (fun _ _ _ h => h) (Or.inl ⟨by kernel_rfl, (fun W hw => by clear hw; go_simp)⟩) (HS.out.x _) ?_
          simp only [Act.put, List.setIfInBounds_toArray, List.set_cons_zero, List.set_cons_succ]
          refine iny_take (i := 4) (some 84) (.bool true) rfl (by rfl) (by kernel_rfl) (by kernel_rfl) (by kernel_rfl) (fun _ _ _ h => h) (Or.inl ⟨by kernel_rfl, (fun W hw => by clear hw; go_simp)⟩) (HS.out.x _) ?_
          simp only [Act.put, List.setIfInBounds_toArray, List.set_cons_zero, List.set_cons_succ]
          refine iny_take (i := 5) (some 85) (.bool true) rfl (by rfl) (by kernel_rfl) (by kernel_rfl) (by kernel_rfl) (fun _ _ _ h => h) (Or.inl ⟨by kernel_rfl, (fun W hw => by clear hw; go_simp)⟩) (HS.out.x _) ?_
          simp only [Act.put, List.setIfInBounds_toArray, List.set_cons_zero, List.set_cons_succ]
          refine iny_take (i := 6) (some 86) (.int .i64 (k : Int)) rfl (by rfl) (by kernel_rfl) (by kernel_rfl) (by kernel_rfl) (fun _ _ _ h => h) (Or.inl ⟨by kernel_rfl, (fun W hw => by clear hw; go_simp)⟩) (HS.out.x _) ?_
          simp only [Act.put, List.setIfInBounds_toArray, List.set_cons_zero, List.set_cons_succ]
          refine iny_take (i := 7) (some 87) (.bool true) rfl (by rfl) (by kernel_rfl) (by kernel_rfl) (by kernel_rfl) (fun _ _ _ h => h) (Or.inl ⟨by kernel_rfl, (fun W hw => by clear hw; go_simp)⟩) (HS.out.x _) ?_
          simp only [Act.put, List.setIfInBounds_toArray, List.set_cons_zero, List.set_cons_succ]
          refine iny_take (i := 8) (some 88) (.bool true) rfl (by rfl) (by kernel_rfl) (by kernel_rfl) (by kernel_rfl) (fun _ _ _ h => h) (Or.inl ⟨by kernel_rfl, (fun W hw => by clear hw; go_simp)⟩) (HS.out.x _) ?_
          simp only [Act.put, List.setIfInBounds_toArray, List.set_cons_zero, List.set_cons_succ]
          refine iny_take (i := 9) (some 89) (.int .i64 (k : Int)) rfl (by rfl) (by kernel_rfl) (by kernel_rfl) (by kernel_rfl) (fun _ _ _ h => h) (Or.inl ⟨by kernel_rfl, (fun W hw => by clear hw; go_simp)⟩) (HS.out.x _) ?_
          simp only [Act.put, List.setIfInBounds_toArray, List.set_cons_zero, List.set_cons_succ]
          refine iny_take (i := 10) (some 90) (.slice (some ⟨lb, loff, none⟩) q lc) rfl (by rfl) (by kernel_rfl) (by kernel_rfl) (by kernel_rfl) (fun _ _ _ h => h) (Or.inl ⟨by kernel_rfl, (fun W hw => by obtain ⟨⟨c0, c1, c2, c3, c4, c5, c6, c7, c8⟩, bl, bn⟩ := HEX.out W hw; clear hw; go_simp)⟩) (HS.out.x _) ?_
          simp only [Act.put, List.setIfInBounds_toArray, List.set_cons_zero, List.set_cons_succ]
          refine iny_take (i := 11) (some 91) (.int .i64 q) rfl (by rfl) (by kernel_rfl) (by kernel_rfl) (by kernel_rfl) (fun _ _ _ h => h) (Or.inl ⟨by kernel_rfl, (fun W hw => by clear hw; go_simp)⟩) (HS.out.x _) ?_
          simp only [Act.put, List.setIfInBounds_toArray, List.set_cons_zero, List.set_cons_succ]
          refine iny_take (i := 12) (some 92) (.bool true) rfl (by rfl) (by kernel_rfl) (by kernel_rfl) (by kernel_rfl) (fun _ _ _ h => h) (Or.inl ⟨by kernel_rfl, (fun W hw => by clear hw; go_simp)⟩) (HS.out.x _) ?_
          simp only [Act.put, List.setIfInBounds_toArray, List.set_cons_zero, List.set_cons_succ]
          refine iny_take (i := 13) (some 93) (.bool true) rfl (by rfl) (by kernel_rfl) (by kernel_rfl) (by kernel_rfl) (fun _ _ _ h => h) (Or.inl ⟨by kernel_rfl, (fun W hw => by clear hw; go_simp)⟩) (HS.out.x _) ?_
          simp only [Act.put, List.setIfInBounds_toArray, List.set_cons_zero, List.set_cons_succ]
          refine iny_take (i := 14) (some 94) (.bool true) rfl (by rfl) (by kernel_rfl) (by kernel_rfl) (by kernel_rfl) (fun _ _ _ h => h) (Or.inl ⟨by kernel_rfl, (fun W hw => by clear hw; go_simp)⟩) (HS.out.x _) ?_
          simp only [Act.put, List.setIfInBounds_toArray, List.set_cons_zero, List.set_cons_succ]
          refine iny_take (i := 15) (some 95) (.bool true) rfl (by rfl) (by kernel_rfl) (by kernel_rfl) (by kernel_rfl) (fun _ _ _ h => h) (Or.inl ⟨by kernel_rfl, (fun W hw => by clear hw; go_simp)⟩) (HS.out.x _) ?_
          simp only [Act.put, List.setIfInBounds_toArray, List.set_cons_zero, List.set_cons_succ]
          refine iny_take (i := 16) (some 96) (.bool true) rfl (by rfl) (by kernel_rfl) (by kernel_rfl) (by kernel_rfl) (fun _ _ _ h => h) (Or.inl ⟨by kernel_rfl, (fun W hw => by clear hw; go_simp)⟩) (HS.out.x _) ?_
          simp only [Act.put, List.setIfInBounds_toArray, List.set_cons_zero, List.set_cons_succ]
          refine iny_take (i := 17) (some 97) (.agg #[.int .i64 z0, .string z1, .int .i64 z2, .int .i64 z3, .int .i64 z4, .slice e1 e2 e3, .slice o1 o2 o3, .int .i64 z8, .int .i64 z9]) rfl (by rfl) (by kernel_rfl) (by kernel_rfl) (by kernel_rfl) (fun _ _ _ h => h) (Or.inl ⟨by kernel_rfl, (fun W hw => by obtain ⟨⟨c0, c1, c2, c3, c4, c5, c6, c7, c8⟩, ⟨d0, d1, d2, d3, d4, d5, d6, d7, d8⟩⟩ := HEY.out W hw; simp only [Nat.zero_add, slv] at c0 c1 c2 c3 c4 c5 c6 c7 c8 d0 d1 d2 d3 d4 d5 d6 d7 d8; clear hw; go_simp)⟩) (HS.out.x _) ?_
          simp only [Act.put, List.setIfInBounds_toArray, List.set_cons_zero, List.set_cons_succ]
          refine iny_take (i := 18) (some 98) (.agg #[.int .i64 z0, .string z1, .int .i64 z2, .int .i64 z3, .int .i64 z4, .slice zu1 zu2 zu3, .slice zv1 zv2 zv3, .int .i64 z8, .int .i64 z9]) rfl (by rfl) (by kernel_rfl) (by kernel_rfl) (by kernel_rfl) (fun _ _ _ h => h) (Or.inl ⟨by kernel_rfl, (fun W hw => by obtain ⟨⟨c0, c1, c2, c3, c4, c5, c6, c7, c8⟩, ⟨d0, d1, d2, d3, d4, d5, d6, d7, d8⟩⟩ := HEY.out W hw; simp only [Nat.zero_add, slv] at c0 c1 c2 c3 c4 c5 c6 c7 c8 d0 d1 d2 d3 d4 d5 d6 d7 d8; clear hw; go_simp)⟩) (HS.out.x _) ?_
          simp only [Act.put, List.setIfInBounds_toArray, List.set_cons_zero, List.set_cons_succ]
          refine iny_one_x (i := 19) (some 99) rfl (by rfl) (by kernel_rfl) (by kernel_rfl) (by go_simp) HS.out (HEE.out _ HS.out) ?_
          rintro v wb1 hbn hsn rfl
          have HSN := Lib.hid (show LS wr wb1 from hsn)
          clear HS hbn hsn
          have HS := HSN
          clear HSN
          simp only [Act.put, List.setIfInBounds_toArray, List.set_cons_zero, List.set_cons_succ]
          refine iny_take (i := 20) (some 100) (.bool true) rfl (by rfl) (by kernel_rfl) (by kernel_rfl) (by kernel_rfl) (fun _ _ _ h => h) (Or.inl ⟨by kernel_rfl, (fun W hw => by clear hw; go_simp)⟩) (HS.out.x _) ?_
          simp only [Act.put, List.setIfInBounds_toArray, List.set_cons_zero, List.set_cons_succ]
          refine iny_take (i := 21) (some 101) (.bool true) rfl (by rfl) (by kernel_rfl) (by kernel_rfl) (by kernel_rfl) (fun _ _ _ h => h) (Or.inl ⟨by kernel_rfl, (fun W hw => by clear hw; go_simp)⟩) (HS.out.x _) ?_
          simp only [Act.put, List.setIfInBounds_toArray, List.set_cons_zero, List.set_cons_succ]
          refine iny_take (i := 22) (some 102) (.agg #[.int .i64 x0, .string x1, .int .i64 x2, .int .i64 x3, .int .i64 x4, .slice xu1 xu2 xu3, .slice xv1 xv2 xv3, .int .i64 x8, .int .i64 x9]) rfl (by rfl) (by kernel_rfl) (by kernel_rfl) (by kernel_rfl) (fun _ _ _ h => h) (Or.inl ⟨by kernel_rfl, (fun W hw => by obtain ⟨⟨c0, c1, c2, c3, c4, c5, c6, c7, c8⟩, bl, bn⟩ := HEX.out W hw; clear hw; go_simp)⟩) (HS.out.x _) ?_
          simp only [Act.put, List.setIfInBounds_toArray, List.set_cons_zero, List.set_cons_succ]
          refine iny_take (i := 24) (some 104) (.slice Av q cv) rfl (by rfl) (by kernel_rfl) (by kernel_rfl) (by kernel_rfl) (fun _ _ _ h => h) (Or.inl ⟨by kernel_rfl, (fun W hw => by clear hw; go_simp)⟩) (HS.out.x _) ?_
          simp only [Act.put, List.setIfInBounds_toArray, List.set_cons_zero, List.set_cons_succ]
          refine iny_one_x (i := 23) (some 103) rfl (by rfl) (by kernel_rfl) (by kernel_rfl) (by go_simp) HS.out (HSS.out _ HS.out) ?_
          rintro v wb2 hbn hsn ⟨sA, sc, rfl, hrs⟩
          have HRS := Lib.hid hrs
          clear hrs
          have HSN := Lib.hid (show LS wr wb2 from hsn)
          clear HS hbn hsn
          have HS := HSN
          clear HSN
          simp only [Act.put, List.setIfInBounds_toArray, List.set_cons_zero, List.set_cons_succ]
          refine iny_one_x (i := 25) (some 105) rfl (by rfl) (by kernel_rfl) (by kernel_rfl) (by go_simp) HS.out (HSM.out _ _ _ HS.out HRS.out) ?_
          rintro v wb3 hbn hsn rfl
          have HSN := Lib.hid (show LS wr wb3 from hsn)
          clear HS hbn hsn
          have HS := HSN
          clear HSN
          simp only [Act.put, List.setIfInBounds_toArray, List.set_cons_zero, List.set_cons_succ]
          refine iny_take (i := 26) (some 106) (.bool true) rfl (by rfl) (by kernel_rfl) (by kernel_rfl) (by kernel_rfl) (fun _ _ _ h => h) (Or.inl ⟨by kernel_rfl, (fun W hw => by clear hw; go_simp)⟩) (HS.out.x _) ?_
          simp only [Act.put, List.setIfInBounds_toArray, List.set_cons_zero, List.set_cons_succ]
          refine iny_take (i := 27) (some 107) (.bool true) rfl (by rfl) (by kernel_rfl) (by kernel_rfl) (by kernel_rfl) (fun _ _ _ h => h) (Or.inl ⟨by kernel_rfl, (fun W hw => by clear hw; go_simp)⟩) (HS.out.x _) ?_
          simp only [Act.put, List.setIfInBounds_toArray, List.set_cons_zero, List.set_cons_succ]
          refine iny_take (i := 28) (some 108) (.agg #[.int .i64 x0, .string x1, .int .i64 x2, .int .i64 x3, .int .i64 x4, .slice xu1 xu2 xu3, .slice xv1 xv2 xv3, .int .i64 x8, .int .i64 x9]) rfl (by rfl) (by kernel_rfl) (by kernel_rfl) (by kernel_rfl) (fun _ _ _ h => h) (Or.inl ⟨by kernel_rfl, (fun W hw => by obtain ⟨⟨c0, c1, c2, c3, c4, c5, c6, c7, c8⟩, bl, bn⟩ := HEX.out W hw; clear hw; go_simp)⟩) (HS.out.x _) ?_
          simp only [Act.put, List.setIfInBounds_toArray, List.set_cons_zero, List.set_cons_succ]
          refine iny_take (i := 30) (some 110) (.agg #[.int .i64 x0, .string x1, .int .i64 x2, .int .i64 x3, .int .i64 x4, .slice xu1 xu2 xu3, .slice xv1 xv2 xv3, .int .i64 x8, .int .i64 x9]) rfl (by rfl) (by kernel_rfl) (by kernel_rfl) (by kernel_rfl) (fun _ _ _ h => h) (Or.inl ⟨by kernel_rfl, (fun W hw => by obtain ⟨⟨c0, c1, c2, c3, c4, c5, c6, c7, c8⟩, bl, bn⟩ := HEX.out W hw; clear hw; go_simp)⟩) (HS.out.x _) ?_
          simp only [Act.put, List.setIfInBounds_toArray, List.set_cons_zero, List.set_cons_succ]
          refine iny_one_x (i := 29) (some 109) rfl (by rfl) (by kernel_rfl) (by kernel_rfl) (by go_simp) HS.out (HNN.out _ HS.out) ?_
          rintro v wb4 hbn hsn rfl
          have HSN := Lib.hid (show LS wr wb4 from hsn)
          clear HS hbn hsn
          have HS := HSN
          clear HSN
          simp only [Act.put, List.setIfInBounds_toArray, List.set_cons_zero, List.set_cons_succ]
          refine iny_one_x (i := 31) (some 111) rfl (by rfl) (by kernel_rfl) (by kernel_rfl) (by go_simp) HS.out (HRR.out _ HS.out) ?_
          rintro v wb5 hbn hsn rfl
          have HSN := Lib.hid (show LS wr wb5 from hsn)
          clear HS hbn hsn
          have HS := HSN
          clear HSN
          simp only [Act.put, List.setIfInBounds_toArray, List.set_cons_zero, List.set_cons_succ]
          refine iny_take (i := 32) (some 112) (.bool true) rfl (by rfl) (by kernel_rfl) (by kernel_rfl) (by kernel_rfl) (fun _ _ _ h => h) (Or.inl ⟨by kernel_rfl, (fun W hw => by clear hw; go_simp)⟩) (HS.out.x _) ?_
          simp only [Act.put, List.setIfInBounds_toArray, List.set_cons_zero, List.set_cons_succ]
          refine iny_take (i := 33) (some 113) (.bool true) rfl (by rfl) (by kernel_rfl) (by kernel_rfl) (by kernel_rfl) (fun _ _ _ h => h) (Or.inl ⟨by kernel_rfl, (fun W hw => by clear hw; go_simp)⟩) (HS.out.x _) ?_
          simp only [Act.put, List.setIfInBounds_toArray, List.set_cons_zero, List.set_cons_succ]
          refine iny_take (i := 34) (some 114) (.bool true) rfl (by rfl) (by kernel_rfl) (by kernel_rfl) (by kernel_rfl) (fun _ _ _ h => h) (Or.inl ⟨by kernel_rfl, (fun W hw => by clear hw; go_simp)⟩) (HS.out.x _) ?_
          simp only [Act.put, List.setIfInBounds_toArray, List.set_cons_zero, List.set_cons_succ]
          refine iny_one_x (i := 35) (some 115) rfl (by rfl) (by kernel_rfl) (by kernel_rfl) (by go_simp) HS.out (HAA.out _ HS.out) ?_
          rintro v wb6 hbn hsn rfl
          have HSN := Lib.hid (show LS wr wb6 from hsn)
          clear HS hbn hsn
          have HS := HSN
          clear HSN
          simp only [Act.put, List.setIfInBounds_toArray, List.set_cons_zero, List.set_cons_succ]
          refine iny_take (i := 36) (some 116) (.bool true) rfl (by rfl) (by kernel_rfl) (by kernel_rfl) (by kernel_rfl) (fun _ _ _ h => h) (Or.inl ⟨by kernel_rfl, (fun W hw => by clear hw; go_simp)⟩) (HS.out.x _) ?_
          simp only [Act.put, List.setIfInBounds_toArray, List.set_cons_zero, List.set_cons_succ]
          obtain ⟨_, hbx, _, _, hK⟩ := HTX.out _ (HBR.out.trans (Below.mono HS.out HBR.out.size))
          have bc := hbx.cell
          have bf := hbx.frozen
          have HBX := Lib.hid (And.intro hbx hK)
          clear hbx hK
          refine wpAnyHI_all (rs := [37]) (by kernel_rfl) (by simp) fun qq hqq => ?_
          obtain rfl : qq = 37 := by simpa using hqq
          refine inps_skip rfl (by kernel_rfl) (by go_simp) (w' := wb6.setCell ⟨w.heap.size + 1, 0, none⟩ (.bool true)) ⟨_, HS.out, .inr ⟨_, rfl⟩⟩ rfl ?_
          refine wpAnyHI_done (by kernel_rfl) ?_ _
          dsimp only [noPanic]
          gi_wp2
          obtain ⟨hbx, hK⟩ := HBX.out
          obtain ⟨hf1, hf2, hf3⟩ := HFI.out
          have bx : Boxed ((wb6.setCell ⟨w.heap.size + 1, 0, none⟩ (.bool true)).putObj w5.heap.size (.deferred none)) (w.heap.size + 1) 4 (.bool true) := (hbx.set _).kept (grownBy_putObj' _ _ (.deferred none)) (fun e => by have := Option.some.inj e; omega)
          have hK' : (wb6.setCell ⟨w.heap.size + 1, 0, none⟩ (.bool true)).heap[w5.heap.size]? = some (.deferred (some [])) := (Below.heap_setCell _ _ _ _ (by simp only; omega)).trans hK
          refine ⟨by simp, .inl ⟨_, _, rfl, run_takeDeferred hK', ?_⟩⟩
          refine ⟨_, results_box rfl _ _ _ _ rfl (load_bool bx.cell), rfl, ?_⟩
          have h1 := hf1.trans ((HBR.out.trans (Below.mono HS.out HBR.out.size)).mono hf1.size)
          have h2 := h1.trans ((Below.refl _ _).setCell (p := ⟨w.heap.size + 1, 0, none⟩) (by simp only; omega) (.bool true))
          exact h2.trans ((Below.refl _ _).grown (grownBy_putObj' _ w5.heap.size (.deferred none)) h2.size (fun k e => by cases e; omega))
    · have heq : ∀ wr, Below w7.heap.size w7 wr → Calls Try.prog 8 #[teVal nd0, teVal nd0] wr fun e w' => e = .returned (.bool true) ∧ Below wr.heap.size wr w' := fun wr _ => by
        have hT : TmL wr.heap.size wr (nd0, .nil) := ⟨tyV_nil.2 ⟨none, 0, rfl⟩, teV_nil.2 ⟨none, 0, rfl⟩⟩
        have h := requal_any nd0 nd0 .nil .nil wr (by simp [Te.size]) (by simp [Te.size]) hT hT (by simp [nd0, Fo.size]) (by simp [nd0, Fo.size]) trivial trivial
        rw [ndI_two (ndI_refl nd0) (ndI_refl nd0), timg_two (timg_refl Te.nil) (timg_refl Te.nil)] at h
        exact h
      rw [show teVal nd0 = .agg #[.int .i64 0, .string ⟨#[]⟩, .int .i64 0, .int .i64 0, .int .i64 0, .slice none 0 0, .slice none 0 0, .int .i64 0, .int .i64 0] from rfl] at heq
      rw [show teVal nd0 = .agg #[.int .i64 0, .string ⟨#[]⟩, .int .i64 0, .int .i64 0, .int .i64 0, .slice none 0 0, .slice none 0 0, .int .i64 0, .int .i64 0] from rfl]
      have HEQ2 := Lib.hid heq
      have HOUT := Lib.hid (show (decide ((0 : Int) ≤ i) = false) ∨ (decide ((0 : Int) ≤ i) = true ∧ decide (i < (N : Int)) = false) from by
        by_cases h0 : 0 ≤ i
        · refine .inr ⟨decide_eq_true h0, decide_eq_false ?_⟩
          rcases hout with h | h
          · omega
          · rw [HPL.out] at h; omega
        · exact .inl (decide_eq_false h0))
      clear hout heq
      obtain ⟨w8, hw8⟩ : ∃ w8, (w7.alloc (Obj.cells #[.int .i64 0, .string ⟨#[]⟩, .int .i64 0, .int .i64 0, .int .i64 0, .slice none 0 0, .slice none 0 0, .int .i64 0, .int .i64 0] 29)).alloc (Obj.cells #[.int .i64 0, .string ⟨#[]⟩, .int .i64 0, .int .i64 0, .int .i64 0, .slice none 0 0, .slice none 0 0, .int .i64 0, .int .i64 0] 29) = w8 := ⟨_, rfl⟩
      have hb8 : Below w7.heap.size w7 w8 := by rw [← hw8]; exact ((Below.refl _ _).alloc (Nat.le_refl _) _).alloc (by simp) _
      have hs8 : w8.heap.size = w7.heap.size + 2 := by rw [← hw8]; simp
      have hx8 : w8.heap[w7.heap.size]? = some (Obj.cells #[.int .i64 0, .string ⟨#[]⟩, .int .i64 0, .int .i64 0, .int .i64 0, .slice none 0 0, .slice none 0 0, .int .i64 0, .int .i64 0] 29) := by rw [← hw8]; exact (Below.heap_alloc _ _ _ (by simp)).trans (heap_alloc_new w7 _)
      have hy8 : w8.heap[w7.heap.size + 1]? = some (Obj.cells #[.int .i64 0, .string ⟨#[]⟩, .int .i64 0, .int .i64 0, .int .i64 0, .slice none 0 0, .slice none 0 0, .int .i64 0, .int .i64 0] 29) := by
        rw [← hw8]
        have := heap_alloc_new (w7.alloc (Obj.cells #[.int .i64 0, .string ⟨#[]⟩, .int .i64 0, .int .i64 0, .int .i64 0, .slice none 0 0, .slice none 0 0, .int .i64 0, .int .i64 0] 29)) (Obj.cells #[.int .i64 0, .string ⟨#[]⟩, .int .i64 0, .int .i64 0, .int .i64 0, .slice none 0 0, .slice none 0 0, .int .i64 0, .int .i64 0] 29)
        rwa [World.size_alloc] at this
      have HW8 := Lib.hid hw8
      have bl := (HTX.out w8 (HB7.out.trans (hb8.mono HB7.out.size))).2.2.1.cell
      rw [← hw8] at bl
      obtain ⟨w9, hw9⟩ : ∃ w9, (w7.alloc (Obj.cells #[.int .i64 0, .string ⟨#[]⟩, .int .i64 0, .int .i64 0, .int .i64 0, .slice none 0 0, .slice none 0 0, .int .i64 0, .int .i64 0] 29)).alloc (Obj.cells #[.int .i64 0, .string ⟨#[]⟩, .int .i64 0, .int .i64 0, .int .i64 0, .slice none 0 0, .slice none 0 0, .int .i64 0, .int .i64 0] 29) = w9 := ⟨_, rfl⟩
      have hb9 : Below w7.heap.size w7 w9 := by rw [← hw9]; exact ((Below.refl _ _).alloc (Nat.le_refl _) _).alloc (by simp) _
      have hs9 : w9.heap.size = w7.heap.size + 2 := by rw [← hw9]; simp
      have hx9 : w9.heap[w7.heap.size]? = some (Obj.cells #[.int .i64 0, .string ⟨#[]⟩, .int .i64 0, .int .i64 0, .int .i64 0, .slice none 0 0, .slice none 0 0, .int .i64 0, .int .i64 0] 29) := by rw [← hw9]; exact (Below.heap_alloc _ _ _ (by simp)).trans (heap_alloc_new w7 _)
      have hy9 : w9.heap[w7.heap.size + 1]? = some (Obj.cells #[.int .i64 0, .string ⟨#[]⟩, .int .i64 0, .int .i64 0, .int .i64 0, .slice none 0 0, .slice none 0 0, .int .i64 0, .int .i64 0] 29) := by
        rw [← hw9]
        have := heap_alloc_new (w7.alloc (Obj.cells #[.int .i64 0, .string ⟨#[]⟩, .int .i64 0, .int .i64 0, .int .i64 0, .slice none 0 0, .slice none 0 0, .int .i64 0, .int .i64 0] 29)) (Obj.cells #[.int .i64 0, .string ⟨#[]⟩, .int .i64 0, .int .i64 0, .int .i64 0, .slice none 0 0, .slice none 0 0, .int .i64 0, .int .i64 0] 29)
        rwa [World.size_alloc] at this
      have HW9 := Lib.hid hw9
      have HF9 := Lib.hid (And.intro hx9 (And.intro hy9 (And.intro hb9 hs9)))
      clear hw9 hx9 hy9 hb9 hs9 hb8 hs8 hx8 hy8 hw8
      rcases HOUT.out with g0 | ⟨g0, g1⟩
      · gi_wp2
        rw [HW9.out]
        clear bl
        obtain ⟨hx9, hy9, hb79, hs9⟩ := HF9.out
        have HB9 := Lib.hid (show Below W.heap.size W w9 from HB7.out.trans (hb79.mono HB7.out.size))
        have h79 : W.heap.size ≤ w7.heap.size := HB7.out.size
        clear hx9 hy9 hb79
        gi_loopw [13, 14] (fun t13 t14 wr => ∃ q : Nat, q ≤ N ∧ t14 = .int .i64 q ∧ wr.ownsRow w9.heap.size 27 2 t13 q (spnC (PR.take q)) ∧ Below w9.heap.size w9 wr) (fun _ t _ => N - (intOf t).toNat)
        case atStart => exact ⟨0, Nat.zero_le _, rfl, ⟨by simp [spnC], .inl ⟨rfl, by simp⟩⟩, Below.refl _ _⟩
        case round =>
          obtain ⟨q, hq, rfl, hown, hbr⟩ := hrel
          have hbW := HB9.out.trans (hbr.mono HB9.out.size)
          have bl := (HTX.out wr hbW).2.2.1.cell
          have hzr := hbr.size
          by_cases hqN : q < N
          · obtain ⟨s, hs⟩ : ∃ s, PR[q]? = some s := ⟨PR[q]'(by rw [HPL.out]; exact hqN), List.getElem?_eq_getElem _⟩
            have hpt : PR.take (q + 1) = PR.take q ++ [s] := by rw [List.take_add_one, hs]; rfl
            obtain ⟨Av, cv, rfl, hk1, hk2⟩ := own_form hown
            obtain ⟨i0, hi0', hz0', hz1', hz2'⟩ := info_parts spInfo
            have n7 := (HL.out q s hs wr hbW).2.2.2.2.2.2.2.1
            have n8 := (HL.out q s hs wr hbW).2.2.2.2.2.2.2.2
            obtain ⟨sa, hsa⟩ : ∃ sa, s.1.a = sa := ⟨_, rfl⟩
            obtain ⟨sb, hsb⟩ : ∃ sb, s.1.b = sb := ⟨_, rfl⟩
            rw [hsa] at n7
            rw [hsb] at n8
            have hpc : spnC (PR.take (q + 1)) = spnC (PR.take q) ++ [.int .i64 sa, .int .i64 sb] := by rw [hpt, spnC_app, ← hsa, ← hsb]; rfl
            obtain ⟨W7, hW7⟩ : ∃ W7, W7 = wr.alloc (.cells #[.int .i64 sa, .int .i64 sb] 27) := ⟨_, rfl⟩
            have own1 : W7.ownsRow w9.heap.size 27 2 (.slice Av q cv) q (spnC (PR.take q)) := by rw [hW7]; exact hown.alloc _
            have rd1 : Rd W7 2 (.slice (some ⟨wr.heap.size, 0, none⟩) 1 1) 1 [.int .i64 sa, .int .i64 sb] := by
              rw [hW7]; exact rd_new wr [.int .i64 sa, .int .i64 sb] 27 2 1 rfl (by unfold maxLen; omega)
            obtain ⟨v1, w1, hrun, hown1, hg1, _⟩ := run_append_rd (P := Try.prog) W7 w9.heap.size 39 39 27 i0 _ 2 16 Try.underlying39 hi0' hz0' hz1' hz2' rfl (by omega) (.slice Av q cv) q _ own1 _ 1 _ rd1 (by simp [Value.oneCell']) (by unfold maxLen; omega) (by omega) (by rw [hW7]; simp; omega)
            have hrun2 : (app_ #[39, 39] 39 #[.slice Av q cv, .slice (some ⟨wr.heap.size, 0, none⟩) 1 1]).run Try.prog W7 = .ok v1 w1 := hrun
            rw [hW7] at hrun2
            have HO := Lib.hid (show w1.ownsRow w9.heap.size 27 2 v1 (q + 1) (spnC (PR.take (q + 1))) ∧ Below w9.heap.size w9 w1 from by
              rw [hpc]
              refine ⟨hown1, hbr.trans ?_⟩
              have h2 : Below w9.heap.size wr W7 := by rw [hW7]; exact (Below.refl _ _).alloc (by omega) _
              exact h2.trans ((Below.refl _ _).grown hg1 (by rw [hW7]; simp; omega) (fun k e => (own1.lt k e).1))
              )
            clear hrun hown1 hg1 own1 rd1 hown hW7 hpc hpt hs hsa hsb hbr hbW
            gi_wp2
            go_roundw
            case rel => exact ⟨q + 1, by omega, by go_num, HO.out.1, HO.out.2⟩
            case measure => simp [intOf]; omega
          · obtain rfl : q = N := by omega
            obtain ⟨Av, cv, rfl, hk1, hk2⟩ := own_form hown
            have HRW := Lib.hid (show ∀ W', Below wr.heap.size wr W' → Rd W' 2 (.slice Av q cv) q (spnC PR) from fun W' h => by
              have := Rd.of_own hown
              rw [show PR.take q = PR by rw [← HPL.out]; exact List.take_length] at this
              exact this.below h)
            have HBR := Lib.hid hbW
            have HBQ := Lib.hid (show Below w9.heap.size w9 wr from hbr)
            clear hown hbW hbr
            gi_wp2
            have HAA := Lib.hid (show ∀ W', LS wr W' → Gives Try.prog 5 #[] W' (fun v _ => v = .bool true) from fun W' _ => gives_of (HA.out W'))
            have HEE := Lib.hid (show ∀ W', LS wr W' → Gives Try.prog 8 #[.agg #[.int .i64 0, .string ⟨#[]⟩, .int .i64 0, .int .i64 0, .int .i64 0, .slice none 0 0, .slice none 0 0, .int .i64 0, .int .i64 0], .agg #[.int .i64 0, .string ⟨#[]⟩, .int .i64 0, .int .i64 0, .int .i64 0, .slice none 0 0, .slice none 0 0, .int .i64 0, .int .i64 0]] W' (fun v _ => v = .bool true) from fun W' hW => gives_of (HEQ2.out W' (HF9.out.2.2.1.trans ((HBQ.out.trans (Below.mono hW HBQ.out.size)).mono HF9.out.2.2.1.size))))
            have HSS := Lib.hid (show ∀ W', LS wr W' → Gives Try.prog 11 #[(.agg #[.int .i64 x0, .string x1, .int .i64 x2, .int .i64 x3, .int .i64 x4, .slice xu1 xu2 xu3, .slice xv1 xv2 xv3, .int .i64 x8, .int .i64 x9])] W' (fun v W'' => ∃ A c, v = .slice A q c ∧ Rd W'' 2 (.slice A q c) q (spnC PR)) from fun W' hW => (HSP2.out W' (HBR.out.trans (Below.mono hW HBR.out.size))).mono (by
              rintro e w' ⟨v, rfl, hrd, hb⟩
              obtain ⟨A, c, rfl⟩ : ∃ A c, v = .slice A q c := by
                rcases hrd.2 with ⟨h0, _⟩ | ⟨b, off, cap, h, _⟩
                · omega
                · exact ⟨_, cap, h⟩
              exact ⟨_, rfl, ⟨A, c, rfl, hrd⟩, hb⟩))
            have HNN := Lib.hid (show ∀ W', LS wr W' → Gives Try.prog 12 #[(.agg #[.int .i64 x0, .string x1, .int .i64 x2, .int .i64 x3, .int .i64 x4, .slice xu1 xu2 xu3, .slice xv1 xv2 xv3, .int .i64 x8, .int .i64 x9])] W' (fun v _ => v = .bool NB) from fun W' hW => gives_of (HNE2.out W' (HBR.out.trans (Below.mono hW HBR.out.size))))
            have HRR := Lib.hid (show ∀ W', LS wr W' → Gives Try.prog 13 #[(.agg #[.int .i64 x0, .string x1, .int .i64 x2, .int .i64 x3, .int .i64 x4, .slice xu1 xu2 xu3, .slice xv1 xv2 xv3, .int .i64 x8, .int .i64 x9])] W' (fun v _ => v = .bool NB) from fun W' hW => gives_of (HRN2.out W' (HBR.out.trans (Below.mono hW HBR.out.size))))
            have HSM := Lib.hid (show ∀ (W' : World) (A : Option Addr) (c : Nat), LS wr W' → Rd W' 2 (.slice A q c) q (spnC PR) → Gives Try.prog 10 #[.slice A q c, .slice Av q cv] W' (fun v _ => v = .bool true) from fun W' A c hW hrd => gives_of (rsame_spans W' _ _ q PR HPL.out.symm (by omega) hrd (HRW.out W' hW) (by omega)))
            have HEX := Lib.hid (show ∀ W', LSX wr (w.heap.size + 1) W' → (W'.cell? ⟨w.heap.size, 0, none⟩ = some (.int .i64 x0) ∧ W'.cell? ⟨w.heap.size, 1, none⟩ = some (.string x1) ∧ W'.cell? ⟨w.heap.size, 2, none⟩ = some (.int .i64 x2) ∧ W'.cell? ⟨w.heap.size, 3, none⟩ = some (.int .i64 x3) ∧ W'.cell? ⟨w.heap.size, 4, none⟩ = some (.int .i64 x4) ∧ W'.cell? ⟨w.heap.size, 5, none⟩ = some (.slice xu1 xu2 xu3) ∧ W'.cell? ⟨w.heap.size, 6, none⟩ = some (.slice xv1 xv2 xv3) ∧ W'.cell? ⟨w.heap.size, 7, none⟩ = some (.int .i64 x8) ∧ W'.cell? ⟨w.heap.size, 8, none⟩ = some (.int .i64 x9)) ∧ W'.cell? ⟨w3.heap.size, 0, none⟩ = some (.slice (some ⟨lb, loff, none⟩) q lc) ∧ W'.cell? ⟨w3.heap.size + 1, 0, none⟩ = some (.int .i64 q) from fun W' hW => by
              obtain ⟨W1, h1, hj⟩ := hW.blk
              have h := HTX.out W1 (HBR.out.trans (Below.mono h1 HBR.out.size))
              obtain ⟨q0, q1, q2, q3, q4, q5, q6, q7, q8⟩ := h.1
              exact ⟨⟨(World.cell?_of_block (hj w.heap.size (by omega))).trans q0, (World.cell?_of_block (hj w.heap.size (by omega))).trans q1, (World.cell?_of_block (hj w.heap.size (by omega))).trans q2, (World.cell?_of_block (hj w.heap.size (by omega))).trans q3, (World.cell?_of_block (hj w.heap.size (by omega))).trans q4, (World.cell?_of_block (hj w.heap.size (by omega))).trans q5, (World.cell?_of_block (hj w.heap.size (by omega))).trans q6, (World.cell?_of_block (hj w.heap.size (by omega))).trans q7, (World.cell?_of_block (hj w.heap.size (by omega))).trans q8⟩, (World.cell?_of_block (hj w3.heap.size (by omega))).trans h.2.2.1.cell, (World.cell?_of_block (hj (w3.heap.size + 1) (by omega))).trans h.2.2.2.1.cell⟩)
            have HEY := Lib.hid (show ∀ W', LSX wr (w.heap.size + 1) W' → NdAt W' w7.heap.size 0 nd0 ∧ NdAt W' (w7.heap.size + 1) 0 nd0 from fun W' hW => by
              obtain ⟨W1, h1, hj⟩ := hW.blk
              have hb := HBQ.out.trans (Below.mono h1 HBQ.out.size)
              exact ⟨NdAt.of_block (T := 29) ((hj _ (by omega)).trans <| (hb.block _ (by have := HF9.out.2.2.2; omega)).trans HF9.out.1), NdAt.of_block (T := 29) ((hj _ (by omega)).trans <| (hb.block _ (by have := HF9.out.2.2.2; omega)).trans HF9.out.2.1)⟩)
            refine wpIn_noPanic ?_
            refine wpI_region_held (S := LSX wr (w.heap.size + 1)) (by kernel_rfl) ?_
            change wpAnyHI _ _ _ _ _ _ 38 (List.replicate 38 false).toArray _ wr.drew
            simp only [List.replicate_succ, List.replicate_zero]
            have HS := Lib.hid (show LS wr wr.drew from Below.drew (Below.refl _ _))
            generalize wr.drew = wa at *
            refine iny_take (i := 0) (some 80) (.int .i64 q) rfl (by rfl) (by kernel_rfl) (by kernel_rfl) (by kernel_rfl) (fun _ _ _ h => h) (Or.inl ⟨by kernel_rfl, (fun W hw => by obtain ⟨⟨c0, c1, c2, c3, c4, c5, c6, c7, c8⟩, bl, bn⟩ := HEX.out W hw; clear hw; go_simp)⟩) (HS.out.x _) ?_
            simp only [Act.put, List.setIfInBounds_toArray, List.set_cons_zero, List.set_cons_succ]
            refine iny_take (i := 1) (some 81) (.slice (some ⟨lb, loff, none⟩) q lc) rfl (by rfl) (by kernel_rfl) (by kernel_rfl) (by kernel_rfl) (fun _ _ _ h => h) (Or.inl ⟨by kernel_rfl, (fun W hw => by obtain ⟨⟨c0, c1, c2, c3, c4, c5, c6, c7, c8⟩, bl, bn⟩ := HEX.out W hw; clear hw; go_simp)⟩) (HS.out.x _) ?_
            simp only [Act.put, List.setIfInBounds_toArray, List.set_cons_zero, List.set_cons_succ]
            refine iny_take (i := 2) (some 82) (.int .i64 q) rfl (by rfl) (by kernel_rfl) (by kernel_rfl) (by kernel_rfl) (fun _ _ _ h => h) (Or.inl ⟨by kernel_rfl, (fun W hw => by clear hw; go_simp)⟩) (HS.out.x _) ?_
            simp only [Act.put, List.setIfInBounds_toArray, List.set_cons_zero, List.set_cons_succ]
            refine iny_take (i := 3) (some 83) (.bool true) rfl (by rfl) (by kernel_rfl) (by kernel_rfl) (by kernel_rfl) (fun _ _ _ h => h) (Or.inl ⟨by kernel_rfl, (fun W hw => by clear hw; go_simp)⟩) (HS.out.x _) ?_
            simp only [Act.put, List.setIfInBounds_toArray, List.set_cons_zero, List.set_cons_succ]
            refine iny_take (i := 4) (some 84) (.bool true) rfl (by rfl) (by kernel_rfl) (by kernel_rfl) (by kernel_rfl) (fun _ _ _ h => h) (Or.inl ⟨by kernel_rfl, (fun W hw => by clear hw; go_simp)⟩) (HS.out.x _) ?_
            simp only [Act.put, List.setIfInBounds_toArray, List.set_cons_zero, List.set_cons_succ]
            refine iny_take (i := 5) (some 85) (.bool false) rfl (by rfl) (by kernel_rfl) (by kernel_rfl) (by kernel_rfl) (fun _ _ _ h => h) (Or.inl ⟨by kernel_rfl, (fun W hw => by clear hw; go_simp)⟩) (HS.out.x _) ?_
            simp only [Act.put, List.setIfInBounds_toArray, List.set_cons_zero, List.set_cons_succ]
            refine iny_take (i := 6) (some 86) (.int .i64 i) rfl (by rfl) (by kernel_rfl) (by kernel_rfl) (by kernel_rfl) (fun _ _ _ h => h) (Or.inl ⟨by kernel_rfl, (fun W hw => by clear hw; go_simp)⟩) (HS.out.x _) ?_
            simp only [Act.put, List.setIfInBounds_toArray, List.set_cons_zero, List.set_cons_succ]
            refine iny_take (i := 7) (some 87) (.bool false) rfl (by rfl) (by kernel_rfl) (by kernel_rfl) (by kernel_rfl) (fun _ _ _ h => h) (Or.inl ⟨by kernel_rfl, (fun W hw => by clear hw; go_simp)⟩) (HS.out.x _) ?_
            simp only [Act.put, List.setIfInBounds_toArray, List.set_cons_zero, List.set_cons_succ]
            refine iny_take (i := 8) (some 88) (.bool false) rfl (by rfl) (by kernel_rfl) (by kernel_rfl) (by kernel_rfl) (fun _ _ _ h => h) (Or.inl ⟨by kernel_rfl, (fun W hw => by clear hw; go_simp)⟩) (HS.out.x _) ?_
            simp only [Act.put, List.setIfInBounds_toArray, List.set_cons_zero, List.set_cons_succ]
            refine iny_take (i := 9) (some 89) undef rfl (by rfl) (by kernel_rfl) (by kernel_rfl) (by kernel_rfl) (fun _ _ _ h => h) (Or.inr ⟨by kernel_rfl, rfl⟩) (HS.out.x _) ?_
            simp only [Act.put, List.setIfInBounds_toArray, List.set_cons_zero, List.set_cons_succ]
            refine iny_take (i := 10) (some 90) undef rfl (by rfl) (by kernel_rfl) (by kernel_rfl) (by kernel_rfl) (fun _ _ _ h => h) (Or.inr ⟨by kernel_rfl, rfl⟩) (HS.out.x _) ?_
            simp only [Act.put, List.setIfInBounds_toArray, List.set_cons_zero, List.set_cons_succ]
            refine iny_take (i := 11) (some 91) undef rfl (by rfl) (by kernel_rfl) (by kernel_rfl) (by kernel_rfl) (fun _ _ _ h => h) (Or.inr ⟨by kernel_rfl, rfl⟩) (HS.out.x _) ?_
            simp only [Act.put, List.setIfInBounds_toArray, List.set_cons_zero, List.set_cons_succ]
            refine iny_take (i := 12) (some 92) undef rfl (by rfl) (by kernel_rfl) (by kernel_rfl) (by kernel_rfl) (fun _ _ _ h => h) (Or.inr ⟨by kernel_rfl, rfl⟩) (HS.out.x _) ?_
            simp only [Act.put, List.setIfInBounds_toArray, List.set_cons_zero, List.set_cons_succ]
            refine iny_take (i := 13) (some 93) (.bool false) rfl (by rfl) (by kernel_rfl) (by kernel_rfl) (by kernel_rfl) (fun _ _ _ h => h) (Or.inl ⟨by kernel_rfl, (fun W hw => by clear hw; go_simp)⟩) (HS.out.x _) ?_
            simp only [Act.put, List.setIfInBounds_toArray, List.set_cons_zero, List.set_cons_succ]
            refine iny_take (i := 14) (some 94) (.bool true) rfl (by rfl) (by kernel_rfl) (by kernel_rfl) (by kernel_rfl) (fun _ _ _ h => h) (Or.inl ⟨by kernel_rfl, (fun W hw => by clear hw; go_simp)⟩) (HS.out.x _) ?_
            simp only [Act.put, List.setIfInBounds_toArray, List.set_cons_zero, List.set_cons_succ]
            refine iny_take (i := 15) (some 95) (.bool true) rfl (by rfl) (by kernel_rfl) (by kernel_rfl) (by kernel_rfl) (fun _ _ _ h => h) (Or.inl ⟨by kernel_rfl, (fun W hw => by clear hw; go_simp)⟩) (HS.out.x _) ?_
            simp only [Act.put, List.setIfInBounds_toArray, List.set_cons_zero, List.set_cons_succ]
            refine iny_take (i := 16) (some 96) (.bool true) rfl (by rfl) (by kernel_rfl) (by kernel_rfl) (by kernel_rfl) (fun _ _ _ h => h) (Or.inl ⟨by kernel_rfl, (fun W hw => by clear hw; go_simp)⟩) (HS.out.x _) ?_
            simp only [Act.put, List.setIfInBounds_toArray, List.set_cons_zero, List.set_cons_succ]
            refine iny_take (i := 17) (some 97) (.agg #[.int .i64 0, .string ⟨#[]⟩, .int .i64 0, .int .i64 0, .int .i64 0, .slice none 0 0, .slice none 0 0, .int .i64 0, .int .i64 0]) rfl (by rfl) (by kernel_rfl) (by kernel_rfl) (by kernel_rfl) (fun _ _ _ h => h) (Or.inl ⟨by kernel_rfl, (fun W hw => by obtain ⟨⟨c0, c1, c2, c3, c4, c5, c6, c7, c8⟩, ⟨d0, d1, d2, d3, d4, d5, d6, d7, d8⟩⟩ := HEY.out W hw; simp only [Nat.zero_add, slv, nd0, (show ByteArray.empty = (⟨#[]⟩ : ByteArray) from rfl)] at c0 c1 c2 c3 c4 c5 c6 c7 c8 d0 d1 d2 d3 d4 d5 d6 d7 d8; clear hw; go_simp)⟩) (HS.out.x _) ?_
            simp only [Act.put, List.setIfInBounds_toArray, List.set_cons_zero, List.set_cons_succ]
            refine iny_take (i := 18) (some 98) (.agg #[.int .i64 0, .string ⟨#[]⟩, .int .i64 0, .int .i64 0, .int .i64 0, .slice none 0 0, .slice none 0 0, .int .i64 0, .int .i64 0]) rfl (by rfl) (by kernel_rfl) (by kernel_rfl) (by kernel_rfl) (fun _ _ _ h => h) (Or.inl ⟨by kernel_rfl, (fun W hw => by obtain ⟨⟨c0, c1, c2, c3, c4, c5, c6, c7, c8⟩, ⟨d0, d1, d2, d3, d4, d5, d6, d7, d8⟩⟩ := HEY.out W hw; simp only [Nat.zero_add, slv, nd0, (show ByteArray.empty = (⟨#[]⟩ : ByteArray) from rfl)] at c0 c1 c2 c3 c4 c5 c6 c7 c8 d0 d1 d2 d3 d4 d5 d6 d7 d8; clear hw; go_simp)⟩) (HS.out.x _) ?_
            simp only [Act.put, List.setIfInBounds_toArray, List.set_cons_zero, List.set_cons_succ]
            refine iny_one_x (i := 19) (some 99) rfl (by rfl) (by kernel_rfl) (by kernel_rfl) (by go_simp) HS.out (HEE.out _ HS.out) ?_
            rintro v wb1 hbn hsn rfl
            have HSN := Lib.hid (show LS wr wb1 from hsn)
            clear HS hbn hsn
            have HS := HSN
            clear HSN
            simp only [Act.put, List.setIfInBounds_toArray, List.set_cons_zero, List.set_cons_succ]
            refine iny_take (i := 20) (some 100) (.bool true) rfl (by rfl) (by kernel_rfl) (by kernel_rfl) (by kernel_rfl) (fun _ _ _ h => h) (Or.inl ⟨by kernel_rfl, (fun W hw => by clear hw; go_simp)⟩) (HS.out.x _) ?_
            simp only [Act.put, List.setIfInBounds_toArray, List.set_cons_zero, List.set_cons_succ]
            refine iny_take (i := 21) (some 101) (.bool true) rfl (by rfl) (by kernel_rfl) (by kernel_rfl) (by kernel_rfl) (fun _ _ _ h => h) (Or.inl ⟨by kernel_rfl, (fun W hw => by clear hw; go_simp)⟩) (HS.out.x _) ?_
            simp only [Act.put, List.setIfInBounds_toArray, List.set_cons_zero, List.set_cons_succ]
            refine iny_take (i := 22) (some 102) (.agg #[.int .i64 x0, .string x1, .int .i64 x2, .int .i64 x3, .int .i64 x4, .slice xu1 xu2 xu3, .slice xv1 xv2 xv3, .int .i64 x8, .int .i64 x9]) rfl (by rfl) (by kernel_rfl) (by kernel_rfl) (by kernel_rfl) (fun _ _ _ h => h) (Or.inl ⟨by kernel_rfl, (fun W hw => by obtain ⟨⟨c0, c1, c2, c3, c4, c5, c6, c7, c8⟩, bl, bn⟩ := HEX.out W hw; clear hw; go_simp)⟩) (HS.out.x _) ?_
            simp only [Act.put, List.setIfInBounds_toArray, List.set_cons_zero, List.set_cons_succ]
            refine iny_take (i := 24) (some 104) (.slice Av q cv) rfl (by rfl) (by kernel_rfl) (by kernel_rfl) (by kernel_rfl) (fun _ _ _ h => h) (Or.inl ⟨by kernel_rfl, (fun W hw => by clear hw; go_simp)⟩) (HS.out.x _) ?_
            simp only [Act.put, List.setIfInBounds_toArray, List.set_cons_zero, List.set_cons_succ]
            refine iny_one_x (i := 23) (some 103) rfl (by rfl) (by kernel_rfl) (by kernel_rfl) (by go_simp) HS.out (HSS.out _ HS.out) ?_
            rintro v wb2 hbn hsn ⟨sA, sc, rfl, hrs⟩
            have HRS := Lib.hid hrs
            clear hrs
            have HSN := Lib.hid (show LS wr wb2 from hsn)
            clear HS hbn hsn
            have HS := HSN
            clear HSN
            simp only [Act.put, List.setIfInBounds_toArray, List.set_cons_zero, List.set_cons_succ]
            refine iny_one_x (i := 25) (some 105) rfl (by rfl) (by kernel_rfl) (by kernel_rfl) (by go_simp) HS.out (HSM.out _ _ _ HS.out HRS.out) ?_
            rintro v wb3 hbn hsn rfl
            have HSN := Lib.hid (show LS wr wb3 from hsn)
            clear HS hbn hsn
            have HS := HSN
            clear HSN
            simp only [Act.put, List.setIfInBounds_toArray, List.set_cons_zero, List.set_cons_succ]
            refine iny_take (i := 26) (some 106) (.bool true) rfl (by rfl) (by kernel_rfl) (by kernel_rfl) (by kernel_rfl) (fun _ _ _ h => h) (Or.inl ⟨by kernel_rfl, (fun W hw => by clear hw; go_simp)⟩) (HS.out.x _) ?_
            simp only [Act.put, List.setIfInBounds_toArray, List.set_cons_zero, List.set_cons_succ]
            refine iny_take (i := 27) (some 107) (.bool true) rfl (by rfl) (by kernel_rfl) (by kernel_rfl) (by kernel_rfl) (fun _ _ _ h => h) (Or.inl ⟨by kernel_rfl, (fun W hw => by clear hw; go_simp)⟩) (HS.out.x _) ?_
            simp only [Act.put, List.setIfInBounds_toArray, List.set_cons_zero, List.set_cons_succ]
            refine iny_take (i := 28) (some 108) (.agg #[.int .i64 x0, .string x1, .int .i64 x2, .int .i64 x3, .int .i64 x4, .slice xu1 xu2 xu3, .slice xv1 xv2 xv3, .int .i64 x8, .int .i64 x9]) rfl (by rfl) (by kernel_rfl) (by kernel_rfl) (by kernel_rfl) (fun _ _ _ h => h) (Or.inl ⟨by kernel_rfl, (fun W hw => by obtain ⟨⟨c0, c1, c2, c3, c4, c5, c6, c7, c8⟩, bl, bn⟩ := HEX.out W hw; clear hw; go_simp)⟩) (HS.out.x _) ?_
            simp only [Act.put, List.setIfInBounds_toArray, List.set_cons_zero, List.set_cons_succ]
            refine iny_take (i := 30) (some 110) (.agg #[.int .i64 x0, .string x1, .int .i64 x2, .int .i64 x3, .int .i64 x4, .slice xu1 xu2 xu3, .slice xv1 xv2 xv3, .int .i64 x8, .int .i64 x9]) rfl (by rfl) (by kernel_rfl) (by kernel_rfl) (by kernel_rfl) (fun _ _ _ h => h) (Or.inl ⟨by kernel_rfl, (fun W hw => by obtain ⟨⟨c0, c1, c2, c3, c4, c5, c6, c7, c8⟩, bl, bn⟩ := HEX.out W hw; clear hw; go_simp)⟩) (HS.out.x _) ?_
            simp only [Act.put, List.setIfInBounds_toArray, List.set_cons_zero, List.set_cons_succ]
            refine iny_one_x (i := 29) (some 109) rfl (by rfl) (by kernel_rfl) (by kernel_rfl) (by go_simp) HS.out (HNN.out _ HS.out) ?_
            rintro v wb4 hbn hsn rfl
            have HSN := Lib.hid (show LS wr wb4 from hsn)
            clear HS hbn hsn
            have HS := HSN
            clear HSN
            simp only [Act.put, List.setIfInBounds_toArray, List.set_cons_zero, List.set_cons_succ]
            refine iny_one_x (i := 31) (some 111) rfl (by rfl) (by kernel_rfl) (by kernel_rfl) (by go_simp) HS.out (HRR.out _ HS.out) ?_
            rintro v wb5 hbn hsn rfl
            have HSN := Lib.hid (show LS wr wb5 from hsn)
            clear HS hbn hsn
            have HS := HSN
            clear HSN
            simp only [Act.put, List.setIfInBounds_toArray, List.set_cons_zero, List.set_cons_succ]
            refine iny_take (i := 32) (some 112) (.bool true) rfl (by rfl) (by kernel_rfl) (by kernel_rfl) (by kernel_rfl) (fun _ _ _ h => h) (Or.inl ⟨by kernel_rfl, (fun W hw => by clear hw; go_simp)⟩) (HS.out.x _) ?_
            simp only [Act.put, List.setIfInBounds_toArray, List.set_cons_zero, List.set_cons_succ]
            refine iny_take (i := 33) (some 113) (.bool true) rfl (by rfl) (by kernel_rfl) (by kernel_rfl) (by kernel_rfl) (fun _ _ _ h => h) (Or.inl ⟨by kernel_rfl, (fun W hw => by clear hw; go_simp)⟩) (HS.out.x _) ?_
            simp only [Act.put, List.setIfInBounds_toArray, List.set_cons_zero, List.set_cons_succ]
            refine iny_take (i := 34) (some 114) (.bool true) rfl (by rfl) (by kernel_rfl) (by kernel_rfl) (by kernel_rfl) (fun _ _ _ h => h) (Or.inl ⟨by kernel_rfl, (fun W hw => by clear hw; go_simp)⟩) (HS.out.x _) ?_
            simp only [Act.put, List.setIfInBounds_toArray, List.set_cons_zero, List.set_cons_succ]
            refine iny_one_x (i := 35) (some 115) rfl (by rfl) (by kernel_rfl) (by kernel_rfl) (by go_simp) HS.out (HAA.out _ HS.out) ?_
            rintro v wb6 hbn hsn rfl
            have HSN := Lib.hid (show LS wr wb6 from hsn)
            clear HS hbn hsn
            have HS := HSN
            clear HSN
            simp only [Act.put, List.setIfInBounds_toArray, List.set_cons_zero, List.set_cons_succ]
            refine iny_take (i := 36) (some 116) (.bool true) rfl (by rfl) (by kernel_rfl) (by kernel_rfl) (by kernel_rfl) (fun _ _ _ h => h) (Or.inl ⟨by kernel_rfl, (fun W hw => by clear hw; go_simp)⟩) (HS.out.x _) ?_
            simp only [Act.put, List.setIfInBounds_toArray, List.set_cons_zero, List.set_cons_succ]
            obtain ⟨_, hbx, _, _, hK⟩ := HTX.out _ (HBR.out.trans (Below.mono HS.out HBR.out.size))
            have bc := hbx.cell
            have bf := hbx.frozen
            have HBX := Lib.hid (And.intro hbx hK)
            clear hbx hK
            refine wpAnyHI_all (rs := [37]) (by kernel_rfl) (by simp) fun qq hqq => ?_
            obtain rfl : qq = 37 := by simpa using hqq
            refine inps_skip rfl (by kernel_rfl) (by go_simp) (w' := wb6.setCell ⟨w.heap.size + 1, 0, none⟩ (.bool true)) ⟨_, HS.out, .inr ⟨_, rfl⟩⟩ rfl ?_
            refine wpAnyHI_done (by kernel_rfl) ?_ _
            dsimp only [noPanic]
            gi_wp2
            obtain ⟨hbx, hK⟩ := HBX.out
            obtain ⟨hf1, hf2, hf3⟩ := HFI.out
            have bx : Boxed ((wb6.setCell ⟨w.heap.size + 1, 0, none⟩ (.bool true)).putObj w5.heap.size (.deferred none)) (w.heap.size + 1) 4 (.bool true) := (hbx.set _).kept (grownBy_putObj' _ _ (.deferred none)) (fun e => by have := Option.some.inj e; omega)
            have hK' : (wb6.setCell ⟨w.heap.size + 1, 0, none⟩ (.bool true)).heap[w5.heap.size]? = some (.deferred (some [])) := (Below.heap_setCell _ _ _ _ (by simp only; omega)).trans hK
            refine ⟨by simp, .inl ⟨_, _, rfl, run_takeDeferred hK', ?_⟩⟩
            refine ⟨_, results_box rfl _ _ _ _ rfl (load_bool bx.cell), rfl, ?_⟩
            have h1 := hf1.trans ((HBR.out.trans (Below.mono HS.out HBR.out.size)).mono hf1.size)
            have h2 := h1.trans ((Below.refl _ _).setCell (p := ⟨w.heap.size + 1, 0, none⟩) (by simp only; omega) (.bool true))
            exact h2.trans ((Below.refl _ _).grown (grownBy_putObj' _ w5.heap.size (.deferred none)) h2.size (fun k e => by cases e; omega))
      · gi_wp2
        rw [HW9.out]
        clear bl
        obtain ⟨hx9, hy9, hb79, hs9⟩ := HF9.out
        have HB9 := Lib.hid (show Below W.heap.size W w9 from HB7.out.trans (hb79.mono HB7.out.size))
        have h79 : W.heap.size ≤ w7.heap.size := HB7.out.size
        clear hx9 hy9 hb79
        gi_loopw [13, 14] (fun t13 t14 wr => ∃ q : Nat, q ≤ N ∧ t14 = .int .i64 q ∧ wr.ownsRow w9.heap.size 27 2 t13 q (spnC (PR.take q)) ∧ Below w9.heap.size w9 wr) (fun _ t _ => N - (intOf t).toNat)
        case atStart => exact ⟨0, Nat.zero_le _, rfl, ⟨by simp [spnC], .inl ⟨rfl, by simp⟩⟩, Below.refl _ _⟩
        case round =>
          obtain ⟨q, hq, rfl, hown, hbr⟩ := hrel
          have hbW := HB9.out.trans (hbr.mono HB9.out.size)
          have bl := (HTX.out wr hbW).2.2.1.cell
          have hzr := hbr.size
          by_cases hqN : q < N
          · obtain ⟨s, hs⟩ : ∃ s, PR[q]? = some s := ⟨PR[q]'(by rw [HPL.out]; exact hqN), List.getElem?_eq_getElem _⟩
            have hpt : PR.take (q + 1) = PR.take q ++ [s] := by rw [List.take_add_one, hs]; rfl
            obtain ⟨Av, cv, rfl, hk1, hk2⟩ := own_form hown
            obtain ⟨i0, hi0', hz0', hz1', hz2'⟩ := info_parts spInfo
            have n7 := (HL.out q s hs wr hbW).2.2.2.2.2.2.2.1
            have n8 := (HL.out q s hs wr hbW).2.2.2.2.2.2.2.2
            obtain ⟨sa, hsa⟩ : ∃ sa, s.1.a = sa := ⟨_, rfl⟩
            obtain ⟨sb, hsb⟩ : ∃ sb, s.1.b = sb := ⟨_, rfl⟩
            rw [hsa] at n7
            rw [hsb] at n8
            have hpc : spnC (PR.take (q + 1)) = spnC (PR.take q) ++ [.int .i64 sa, .int .i64 sb] := by rw [hpt, spnC_app, ← hsa, ← hsb]; rfl
            obtain ⟨W7, hW7⟩ : ∃ W7, W7 = wr.alloc (.cells #[.int .i64 sa, .int .i64 sb] 27) := ⟨_, rfl⟩
            have own1 : W7.ownsRow w9.heap.size 27 2 (.slice Av q cv) q (spnC (PR.take q)) := by rw [hW7]; exact hown.alloc _
            have rd1 : Rd W7 2 (.slice (some ⟨wr.heap.size, 0, none⟩) 1 1) 1 [.int .i64 sa, .int .i64 sb] := by
              rw [hW7]; exact rd_new wr [.int .i64 sa, .int .i64 sb] 27 2 1 rfl (by unfold maxLen; omega)
            obtain ⟨v1, w1, hrun, hown1, hg1, _⟩ := run_append_rd (P := Try.prog) W7 w9.heap.size 39 39 27 i0 _ 2 16 Try.underlying39 hi0' hz0' hz1' hz2' rfl (by omega) (.slice Av q cv) q _ own1 _ 1 _ rd1 (by simp [Value.oneCell']) (by unfold maxLen; omega) (by omega) (by rw [hW7]; simp; omega)
            have hrun2 : (app_ #[39, 39] 39 #[.slice Av q cv, .slice (some ⟨wr.heap.size, 0, none⟩) 1 1]).run Try.prog W7 = .ok v1 w1 := hrun
            rw [hW7] at hrun2
            have HO := Lib.hid (show w1.ownsRow w9.heap.size 27 2 v1 (q + 1) (spnC (PR.take (q + 1))) ∧ Below w9.heap.size w9 w1 from by
              rw [hpc]
              refine ⟨hown1, hbr.trans ?_⟩
              have h2 : Below w9.heap.size wr W7 := by rw [hW7]; exact (Below.refl _ _).alloc (by omega) _
              exact h2.trans ((Below.refl _ _).grown hg1 (by rw [hW7]; simp; omega) (fun k e => (own1.lt k e).1))
              )
            clear hrun hown1 hg1 own1 rd1 hown hW7 hpc hpt hs hsa hsb hbr hbW
            gi_wp2
            go_roundw
            case rel => exact ⟨q + 1, by omega, by go_num, HO.out.1, HO.out.2⟩
            case measure => simp [intOf]; omega
          · obtain rfl : q = N := by omega
            obtain ⟨Av, cv, rfl, hk1, hk2⟩ := own_form hown
            have HRW := Lib.hid (show ∀ W', Below wr.heap.size wr W' → Rd W' 2 (.slice Av q cv) q (spnC PR) from fun W' h => by
              have := Rd.of_own hown
              rw [show PR.take q = PR by rw [← HPL.out]; exact List.take_length] at this
              exact this.below h)
            have HBR := Lib.hid hbW
            have HBQ := Lib.hid (show Below w9.heap.size w9 wr from hbr)
            clear hown hbW hbr
            gi_wp2
            have HAA := Lib.hid (show ∀ W', LS wr W' → Gives Try.prog 5 #[] W' (fun v _ => v = .bool true) from fun W' _ => gives_of (HA.out W'))
            have HEE := Lib.hid (show ∀ W', LS wr W' → Gives Try.prog 8 #[.agg #[.int .i64 0, .string ⟨#[]⟩, .int .i64 0, .int .i64 0, .int .i64 0, .slice none 0 0, .slice none 0 0, .int .i64 0, .int .i64 0], .agg #[.int .i64 0, .string ⟨#[]⟩, .int .i64 0, .int .i64 0, .int .i64 0, .slice none 0 0, .slice none 0 0, .int .i64 0, .int .i64 0]] W' (fun v _ => v = .bool true) from fun W' hW => gives_of (HEQ2.out W' (HF9.out.2.2.1.trans ((HBQ.out.trans (Below.mono hW HBQ.out.size)).mono HF9.out.2.2.1.size))))
            have HSS := Lib.hid (show ∀ W', LS wr W' → Gives Try.prog 11 #[(.agg #[.int .i64 x0, .string x1, .int .i64 x2, .int .i64 x3, .int .i64 x4, .slice xu1 xu2 xu3, .slice xv1 xv2 xv3, .int .i64 x8, .int .i64 x9])] W' (fun v W'' => ∃ A c, v = .slice A q c ∧ Rd W'' 2 (.slice A q c) q (spnC PR)) from fun W' hW => (HSP2.out W' (HBR.out.trans (Below.mono hW HBR.out.size))).mono (by
              rintro e w' ⟨v, rfl, hrd, hb⟩
              obtain ⟨A, c, rfl⟩ : ∃ A c, v = .slice A q c := by
                rcases hrd.2 with ⟨h0, _⟩ | ⟨b, off, cap, h, _⟩
                · omega
                · exact ⟨_, cap, h⟩
              exact ⟨_, rfl, ⟨A, c, rfl, hrd⟩, hb⟩))
            have HNN := Lib.hid (show ∀ W', LS wr W' → Gives Try.prog 12 #[(.agg #[.int .i64 x0, .string x1, .int .i64 x2, .int .i64 x3, .int .i64 x4, .slice xu1 xu2 xu3, .slice xv1 xv2 xv3, .int .i64 x8, .int .i64 x9])] W' (fun v _ => v = .bool NB) from fun W' hW => gives_of (HNE2.out W' (HBR.out.trans (Below.mono hW HBR.out.size))))
            have HRR := Lib.hid (show ∀ W', LS wr W' → Gives Try.prog 13 #[(.agg #[.int .i64 x0, .string x1, .int .i64 x2, .int .i64 x3, .int .i64 x4, .slice xu1 xu2 xu3, .slice xv1 xv2 xv3, .int .i64 x8, .int .i64 x9])] W' (fun v _ => v = .bool NB) from fun W' hW => gives_of (HRN2.out W' (HBR.out.trans (Below.mono hW HBR.out.size))))
            have HSM := Lib.hid (show ∀ (W' : World) (A : Option Addr) (c : Nat), LS wr W' → Rd W' 2 (.slice A q c) q (spnC PR) → Gives Try.prog 10 #[.slice A q c, .slice Av q cv] W' (fun v _ => v = .bool true) from fun W' A c hW hrd => gives_of (rsame_spans W' _ _ q PR HPL.out.symm (by omega) hrd (HRW.out W' hW) (by omega)))
            have HEX := Lib.hid (show ∀ W', LSX wr (w.heap.size + 1) W' → (W'.cell? ⟨w.heap.size, 0, none⟩ = some (.int .i64 x0) ∧ W'.cell? ⟨w.heap.size, 1, none⟩ = some (.string x1) ∧ W'.cell? ⟨w.heap.size, 2, none⟩ = some (.int .i64 x2) ∧ W'.cell? ⟨w.heap.size, 3, none⟩ = some (.int .i64 x3) ∧ W'.cell? ⟨w.heap.size, 4, none⟩ = some (.int .i64 x4) ∧ W'.cell? ⟨w.heap.size, 5, none⟩ = some (.slice xu1 xu2 xu3) ∧ W'.cell? ⟨w.heap.size, 6, none⟩ = some (.slice xv1 xv2 xv3) ∧ W'.cell? ⟨w.heap.size, 7, none⟩ = some (.int .i64 x8) ∧ W'.cell? ⟨w.heap.size, 8, none⟩ = some (.int .i64 x9)) ∧ W'.cell? ⟨w3.heap.size, 0, none⟩ = some (.slice (some ⟨lb, loff, none⟩) q lc) ∧ W'.cell? ⟨w3.heap.size + 1, 0, none⟩ = some (.int .i64 q) from fun W' hW => by
              obtain ⟨W1, h1, hj⟩ := hW.blk
              have h := HTX.out W1 (HBR.out.trans (Below.mono h1 HBR.out.size))
              obtain ⟨q0, q1, q2, q3, q4, q5, q6, q7, q8⟩ := h.1
              exact ⟨⟨(World.cell?_of_block (hj w.heap.size (by omega))).trans q0, (World.cell?_of_block (hj w.heap.size (by omega))).trans q1, (World.cell?_of_block (hj w.heap.size (by omega))).trans q2, (World.cell?_of_block (hj w.heap.size (by omega))).trans q3, (World.cell?_of_block (hj w.heap.size (by omega))).trans q4, (World.cell?_of_block (hj w.heap.size (by omega))).trans q5, (World.cell?_of_block (hj w.heap.size (by omega))).trans q6, (World.cell?_of_block (hj w.heap.size (by omega))).trans q7, (World.cell?_of_block (hj w.heap.size (by omega))).trans q8⟩, (World.cell?_of_block (hj w3.heap.size (by omega))).trans h.2.2.1.cell, (World.cell?_of_block (hj (w3.heap.size + 1) (by omega))).trans h.2.2.2.1.cell⟩)
            have HEY := Lib.hid (show ∀ W', LSX wr (w.heap.size + 1) W' → NdAt W' w7.heap.size 0 nd0 ∧ NdAt W' (w7.heap.size + 1) 0 nd0 from fun W' hW => by
              obtain ⟨W1, h1, hj⟩ := hW.blk
              have hb := HBQ.out.trans (Below.mono h1 HBQ.out.size)
              exact ⟨NdAt.of_block (T := 29) ((hj _ (by omega)).trans <| (hb.block _ (by have := HF9.out.2.2.2; omega)).trans HF9.out.1), NdAt.of_block (T := 29) ((hj _ (by omega)).trans <| (hb.block _ (by have := HF9.out.2.2.2; omega)).trans HF9.out.2.1)⟩)
            refine wpIn_noPanic ?_
            refine wpI_region_held (S := LSX wr (w.heap.size + 1)) (by kernel_rfl) ?_
            change wpAnyHI _ _ _ _ _ _ 38 (List.replicate 38 false).toArray _ wr.drew
            simp only [List.replicate_succ, List.replicate_zero]
            have HS := Lib.hid (show LS wr wr.drew from Below.drew (Below.refl _ _))
            generalize wr.drew = wa at *
            refine iny_take (i := 0) (some 80) (.int .i64 q) rfl (by rfl) (by kernel_rfl) (by kernel_rfl) (by kernel_rfl) (fun _ _ _ h => h) (Or.inl ⟨by kernel_rfl, (fun W hw => by obtain ⟨⟨c0, c1, c2, c3, c4, c5, c6, c7, c8⟩, bl, bn⟩ := HEX.out W hw; clear hw; go_simp)⟩) (HS.out.x _) ?_
            simp only [Act.put, List.setIfInBounds_toArray, List.set_cons_zero, List.set_cons_succ]
            refine iny_take (i := 1) (some 81) (.slice (some ⟨lb, loff, none⟩) q lc) rfl (by rfl) (by kernel_rfl) (by kernel_rfl) (by kernel_rfl) (fun _ _ _ h => h) (Or.inl ⟨by kernel_rfl, (fun W hw => by obtain ⟨⟨c0, c1, c2, c3, c4, c5, c6, c7, c8⟩, bl, bn⟩ := HEX.out W hw; clear hw; go_simp)⟩) (HS.out.x _) ?_
            simp only [Act.put, List.setIfInBounds_toArray, List.set_cons_zero, List.set_cons_succ]
            refine iny_take (i := 2) (some 82) (.int .i64 q) rfl (by rfl) (by kernel_rfl) (by kernel_rfl) (by kernel_rfl) (fun _ _ _ h => h) (Or.inl ⟨by kernel_rfl, (fun W hw => by clear hw; go_simp)⟩) (HS.out.x _) ?_
            simp only [Act.put, List.setIfInBounds_toArray, List.set_cons_zero, List.set_cons_succ]
            refine iny_take (i := 3) (some 83) (.bool true) rfl (by rfl) (by kernel_rfl) (by kernel_rfl) (by kernel_rfl) (fun _ _ _ h => h) (Or.inl ⟨by kernel_rfl, (fun W hw => by clear hw; go_simp)⟩) (HS.out.x _) ?_
            simp only [Act.put, List.setIfInBounds_toArray, List.set_cons_zero, List.set_cons_succ]
            refine iny_take (i := 4) (some 84) (.bool true) rfl (by rfl) (by kernel_rfl) (by kernel_rfl) (by kernel_rfl) (fun _ _ _ h => h) (Or.inl ⟨by kernel_rfl, (fun W hw => by clear hw; go_simp)⟩) (HS.out.x _) ?_
            simp only [Act.put, List.setIfInBounds_toArray, List.set_cons_zero, List.set_cons_succ]
            refine iny_take (i := 5) (some 85) (.bool false) rfl (by rfl) (by kernel_rfl) (by kernel_rfl) (by kernel_rfl) (fun _ _ _ h => h) (Or.inl ⟨by kernel_rfl, (fun W hw => by clear hw; go_simp)⟩) (HS.out.x _) ?_
            simp only [Act.put, List.setIfInBounds_toArray, List.set_cons_zero, List.set_cons_succ]
            refine iny_take (i := 6) (some 86) (.int .i64 i) rfl (by rfl) (by kernel_rfl) (by kernel_rfl) (by kernel_rfl) (fun _ _ _ h => h) (Or.inl ⟨by kernel_rfl, (fun W hw => by clear hw; go_simp)⟩) (HS.out.x _) ?_
            simp only [Act.put, List.setIfInBounds_toArray, List.set_cons_zero, List.set_cons_succ]
            refine iny_take (i := 7) (some 87) (.bool true) rfl (by rfl) (by kernel_rfl) (by kernel_rfl) (by kernel_rfl) (fun _ _ _ h => h) (Or.inl ⟨by kernel_rfl, (fun W hw => by clear hw; go_simp)⟩) (HS.out.x _) ?_
            simp only [Act.put, List.setIfInBounds_toArray, List.set_cons_zero, List.set_cons_succ]
            refine iny_take (i := 8) (some 88) (.bool true) rfl (by rfl) (by kernel_rfl) (by kernel_rfl) (by kernel_rfl) (fun _ _ _ h => h) (Or.inl ⟨by kernel_rfl, (fun W hw => by clear hw; go_simp)⟩) (HS.out.x _) ?_
            simp only [Act.put, List.setIfInBounds_toArray, List.set_cons_zero, List.set_cons_succ]
            refine iny_take (i := 9) (some 89) (.int .i64 i) rfl (by rfl) (by kernel_rfl) (by kernel_rfl) (by kernel_rfl) (fun _ _ _ h => h) (Or.inl ⟨by kernel_rfl, (fun W hw => by clear hw; go_simp)⟩) (HS.out.x _) ?_
            simp only [Act.put, List.setIfInBounds_toArray, List.set_cons_zero, List.set_cons_succ]
            refine iny_take (i := 10) (some 90) (.slice (some ⟨lb, loff, none⟩) q lc) rfl (by rfl) (by kernel_rfl) (by kernel_rfl) (by kernel_rfl) (fun _ _ _ h => h) (Or.inl ⟨by kernel_rfl, (fun W hw => by obtain ⟨⟨c0, c1, c2, c3, c4, c5, c6, c7, c8⟩, bl, bn⟩ := HEX.out W hw; clear hw; go_simp)⟩) (HS.out.x _) ?_
            simp only [Act.put, List.setIfInBounds_toArray, List.set_cons_zero, List.set_cons_succ]
            refine iny_take (i := 11) (some 91) (.int .i64 q) rfl (by rfl) (by kernel_rfl) (by kernel_rfl) (by kernel_rfl) (fun _ _ _ h => h) (Or.inl ⟨by kernel_rfl, (fun W hw => by clear hw; go_simp)⟩) (HS.out.x _) ?_
            simp only [Act.put, List.setIfInBounds_toArray, List.set_cons_zero, List.set_cons_succ]
            refine iny_take (i := 12) (some 92) (.bool false) rfl (by rfl) (by kernel_rfl) (by kernel_rfl) (by kernel_rfl) (fun _ _ _ h => h) (Or.inl ⟨by kernel_rfl, (fun W hw => by clear hw; go_simp)⟩) (HS.out.x _) ?_
            simp only [Act.put, List.setIfInBounds_toArray, List.set_cons_zero, List.set_cons_succ]
            refine iny_take (i := 13) (some 93) (.bool false) rfl (by rfl) (by kernel_rfl) (by kernel_rfl) (by kernel_rfl) (fun _ _ _ h => h) (Or.inl ⟨by kernel_rfl, (fun W hw => by clear hw; go_simp)⟩) (HS.out.x _) ?_
            simp only [Act.put, List.setIfInBounds_toArray, List.set_cons_zero, List.set_cons_succ]
            refine iny_take (i := 14) (some 94) (.bool true) rfl (by rfl) (by kernel_rfl) (by kernel_rfl) (by kernel_rfl) (fun _ _ _ h => h) (Or.inl ⟨by kernel_rfl, (fun W hw => by clear hw; go_simp)⟩) (HS.out.x _) ?_
            simp only [Act.put, List.setIfInBounds_toArray, List.set_cons_zero, List.set_cons_succ]
            refine iny_take (i := 15) (some 95) (.bool true) rfl (by rfl) (by kernel_rfl) (by kernel_rfl) (by kernel_rfl) (fun _ _ _ h => h) (Or.inl ⟨by kernel_rfl, (fun W hw => by clear hw; go_simp)⟩) (HS.out.x _) ?_
            simp only [Act.put, List.setIfInBounds_toArray, List.set_cons_zero, List.set_cons_succ]
            refine iny_take (i := 16) (some 96) (.bool true) rfl (by rfl) (by kernel_rfl) (by kernel_rfl) (by kernel_rfl) (fun _ _ _ h => h) (Or.inl ⟨by kernel_rfl, (fun W hw => by clear hw; go_simp)⟩) (HS.out.x _) ?_
            simp only [Act.put, List.setIfInBounds_toArray, List.set_cons_zero, List.set_cons_succ]
            refine iny_take (i := 17) (some 97) (.agg #[.int .i64 0, .string ⟨#[]⟩, .int .i64 0, .int .i64 0, .int .i64 0, .slice none 0 0, .slice none 0 0, .int .i64 0, .int .i64 0]) rfl (by rfl) (by kernel_rfl) (by kernel_rfl) (by kernel_rfl) (fun _ _ _ h => h) (Or.inl ⟨by kernel_rfl, (fun W hw => by obtain ⟨⟨c0, c1, c2, c3, c4, c5, c6, c7, c8⟩, ⟨d0, d1, d2, d3, d4, d5, d6, d7, d8⟩⟩ := HEY.out W hw; simp only [Nat.zero_add, slv, nd0, (show ByteArray.empty = (⟨#[]⟩ : ByteArray) from rfl)] at c0 c1 c2 c3 c4 c5 c6 c7 c8 d0 d1 d2 d3 d4 d5 d6 d7 d8; clear hw; go_simp)⟩) (HS.out.x _) ?_
            simp only [Act.put, List.setIfInBounds_toArray, List.set_cons_zero, List.set_cons_succ]
            refine iny_take (i := 18) (some 98) (.agg #[.int .i64 0, .string ⟨#[]⟩, .int .i64 0, .int .i64 0, .int .i64 0, .slice none 0 0, .slice none 0 0, .int .i64 0, .int .i64 0]) rfl (by rfl) (by kernel_rfl) (by kernel_rfl) (by kernel_rfl) (fun _ _ _ h => h) (Or.inl ⟨by kernel_rfl, (fun W hw => by obtain ⟨⟨c0, c1, c2, c3, c4, c5, c6, c7, c8⟩, ⟨d0, d1, d2, d3, d4, d5, d6, d7, d8⟩⟩ := HEY.out W hw; simp only [Nat.zero_add, slv, nd0, (show ByteArray.empty = (⟨#[]⟩ : ByteArray) from rfl)] at c0 c1 c2 c3 c4 c5 c6 c7 c8 d0 d1 d2 d3 d4 d5 d6 d7 d8; clear hw; go_simp)⟩) (HS.out.x _) ?_
            simp only [Act.put, List.setIfInBounds_toArray, List.set_cons_zero, List.set_cons_succ]
            refine iny_one_x (i := 19) (some 99) rfl (by rfl) (by kernel_rfl) (by kernel_rfl) (by go_simp) HS.out (HEE.out _ HS.out) ?_
            rintro v wb1 hbn hsn rfl
            have HSN := Lib.hid (show LS wr wb1 from hsn)
            clear HS hbn hsn
            have HS := HSN
            clear HSN
            simp only [Act.put, List.setIfInBounds_toArray, List.set_cons_zero, List.set_cons_succ]
            refine iny_take (i := 20) (some 100) (.bool true) rfl (by rfl) (by kernel_rfl) (by kernel_rfl) (by kernel_rfl) (fun _ _ _ h => h) (Or.inl ⟨by kernel_rfl, (fun W hw => by clear hw; go_simp)⟩) (HS.out.x _) ?_
            simp only [Act.put, List.setIfInBounds_toArray, List.set_cons_zero, List.set_cons_succ]
            refine iny_take (i := 21) (some 101) (.bool true) rfl (by rfl) (by kernel_rfl) (by kernel_rfl) (by kernel_rfl) (fun _ _ _ h => h) (Or.inl ⟨by kernel_rfl, (fun W hw => by clear hw; go_simp)⟩) (HS.out.x _) ?_
            simp only [Act.put, List.setIfInBounds_toArray, List.set_cons_zero, List.set_cons_succ]
            refine iny_take (i := 22) (some 102) (.agg #[.int .i64 x0, .string x1, .int .i64 x2, .int .i64 x3, .int .i64 x4, .slice xu1 xu2 xu3, .slice xv1 xv2 xv3, .int .i64 x8, .int .i64 x9]) rfl (by rfl) (by kernel_rfl) (by kernel_rfl) (by kernel_rfl) (fun _ _ _ h => h) (Or.inl ⟨by kernel_rfl, (fun W hw => by obtain ⟨⟨c0, c1, c2, c3, c4, c5, c6, c7, c8⟩, bl, bn⟩ := HEX.out W hw; clear hw; go_simp)⟩) (HS.out.x _) ?_
            simp only [Act.put, List.setIfInBounds_toArray, List.set_cons_zero, List.set_cons_succ]
            refine iny_take (i := 24) (some 104) (.slice Av q cv) rfl (by rfl) (by kernel_rfl) (by kernel_rfl) (by kernel_rfl) (fun _ _ _ h => h) (Or.inl ⟨by kernel_rfl, (fun W hw => by clear hw; go_simp)⟩) (HS.out.x _) ?_
            simp only [Act.put, List.setIfInBounds_toArray, List.set_cons_zero, List.set_cons_succ]
            refine iny_one_x (i := 23) (some 103) rfl (by rfl) (by kernel_rfl) (by kernel_rfl) (by go_simp) HS.out (HSS.out _ HS.out) ?_
            rintro v wb2 hbn hsn ⟨sA, sc, rfl, hrs⟩
            have HRS := Lib.hid hrs
            clear hrs
            have HSN := Lib.hid (show LS wr wb2 from hsn)
            clear HS hbn hsn
            have HS := HSN
            clear HSN
            simp only [Act.put, List.setIfInBounds_toArray, List.set_cons_zero, List.set_cons_succ]
            refine iny_one_x (i := 25) (some 105) rfl (by rfl) (by kernel_rfl) (by kernel_rfl) (by go_simp) HS.out (HSM.out _ _ _ HS.out HRS.out) ?_
            rintro v wb3 hbn hsn rfl
            have HSN := Lib.hid (show LS wr wb3 from hsn)
            clear HS hbn hsn
            have HS := HSN
            clear HSN
            simp only [Act.put, List.setIfInBounds_toArray, List.set_cons_zero, List.set_cons_succ]
            refine iny_take (i := 26) (some 106) (.bool true) rfl (by rfl) (by kernel_rfl) (by kernel_rfl) (by kernel_rfl) (fun _ _ _ h => h) (Or.inl ⟨by kernel_rfl, (fun W hw => by clear hw; go_simp)⟩) (HS.out.x _) ?_
            simp only [Act.put, List.setIfInBounds_toArray, List.set_cons_zero, List.set_cons_succ]
            refine iny_take (i := 27) (some 107) (.bool true) rfl (by rfl) (by kernel_rfl) (by kernel_rfl) (by kernel_rfl) (fun _ _ _ h => h) (Or.inl ⟨by kernel_rfl, (fun W hw => by clear hw; go_simp)⟩) (HS.out.x _) ?_
            simp only [Act.put, List.setIfInBounds_toArray, List.set_cons_zero, List.set_cons_succ]
            refine iny_take (i := 28) (some 108) (.agg #[.int .i64 x0, .string x1, .int .i64 x2, .int .i64 x3, .int .i64 x4, .slice xu1 xu2 xu3, .slice xv1 xv2 xv3, .int .i64 x8, .int .i64 x9]) rfl (by rfl) (by kernel_rfl) (by kernel_rfl) (by kernel_rfl) (fun _ _ _ h => h) (Or.inl ⟨by kernel_rfl, (fun W hw => by obtain ⟨⟨c0, c1, c2, c3, c4, c5, c6, c7, c8⟩, bl, bn⟩ := HEX.out W hw; clear hw; go_simp)⟩) (HS.out.x _) ?_
            simp only [Act.put, List.setIfInBounds_toArray, List.set_cons_zero, List.set_cons_succ]
            refine iny_take (i := 30) (some 110) (.agg #[.int .i64 x0, .string x1, .int .i64 x2, .int .i64 x3, .int .i64 x4, .slice xu1 xu2 xu3, .slice xv1 xv2 xv3, .int .i64 x8, .int .i64 x9]) rfl (by rfl) (by kernel_rfl) (by kernel_rfl) (by kernel_rfl) (fun _ _ _ h => h) (Or.inl ⟨by kernel_rfl, (fun W hw => by obtain ⟨⟨c0, c1, c2, c3, c4, c5, c6, c7, c8⟩, bl, bn⟩ := HEX.out W hw; clear hw; go_simp)⟩) (HS.out.x _) ?_
            simp only [Act.put, List.setIfInBounds_toArray, List.set_cons_zero, List.set_cons_succ]
            refine iny_one_x (i := 29) (some 109) rfl (by rfl) (by kernel_rfl) (by kernel_rfl) (by go_simp) HS.out (HNN.out _ HS.out) ?_
            rintro v wb4 hbn hsn rfl
            have HSN := Lib.hid (show LS wr wb4 from hsn)
            clear HS hbn hsn
            have HS := HSN
            clear HSN
            simp only [Act.put, List.setIfInBounds_toArray, List.set_cons_zero, List.set_cons_succ]
            refine iny_one_x (i := 31) (some 111) rfl (by rfl) (by kernel_rfl) (by kernel_rfl) (by go_simp) HS.out (HRR.out _ HS.out) ?_
            rintro v wb5 hbn hsn rfl
            have HSN := Lib.hid (show LS wr wb5 from hsn)
            clear HS hbn hsn
            have HS := HSN
            clear HSN
            simp only [Act.put, List.setIfInBounds_toArray, List.set_cons_zero, List.set_cons_succ]
            refine iny_take (i := 32) (some 112) (.bool true) rfl (by rfl) (by kernel_rfl) (by kernel_rfl) (by kernel_rfl) (fun _ _ _ h => h) (Or.inl ⟨by kernel_rfl, (fun W hw => by clear hw; go_simp)⟩) (HS.out.x _) ?_
            simp only [Act.put, List.setIfInBounds_toArray, List.set_cons_zero, List.set_cons_succ]
            refine iny_take (i := 33) (some 113) (.bool true) rfl (by rfl) (by kernel_rfl) (by kernel_rfl) (by kernel_rfl) (fun _ _ _ h => h) (Or.inl ⟨by kernel_rfl, (fun W hw => by clear hw; go_simp)⟩) (HS.out.x _) ?_
            simp only [Act.put, List.setIfInBounds_toArray, List.set_cons_zero, List.set_cons_succ]
            refine iny_take (i := 34) (some 114) (.bool true) rfl (by rfl) (by kernel_rfl) (by kernel_rfl) (by kernel_rfl) (fun _ _ _ h => h) (Or.inl ⟨by kernel_rfl, (fun W hw => by clear hw; go_simp)⟩) (HS.out.x _) ?_
            simp only [Act.put, List.setIfInBounds_toArray, List.set_cons_zero, List.set_cons_succ]
            refine iny_one_x (i := 35) (some 115) rfl (by rfl) (by kernel_rfl) (by kernel_rfl) (by go_simp) HS.out (HAA.out _ HS.out) ?_
            rintro v wb6 hbn hsn rfl
            have HSN := Lib.hid (show LS wr wb6 from hsn)
            clear HS hbn hsn
            have HS := HSN
            clear HSN
            simp only [Act.put, List.setIfInBounds_toArray, List.set_cons_zero, List.set_cons_succ]
            refine iny_take (i := 36) (some 116) (.bool true) rfl (by rfl) (by kernel_rfl) (by kernel_rfl) (by kernel_rfl) (fun _ _ _ h => h) (Or.inl ⟨by kernel_rfl, (fun W hw => by clear hw; go_simp)⟩) (HS.out.x _) ?_
            simp only [Act.put, List.setIfInBounds_toArray, List.set_cons_zero, List.set_cons_succ]
            obtain ⟨_, hbx, _, _, hK⟩ := HTX.out _ (HBR.out.trans (Below.mono HS.out HBR.out.size))
            have bc := hbx.cell
            have bf := hbx.frozen
            have HBX := Lib.hid (And.intro hbx hK)
            clear hbx hK
            refine wpAnyHI_all (rs := [37]) (by kernel_rfl) (by simp) fun qq hqq => ?_
            obtain rfl : qq = 37 := by simpa using hqq
            refine inps_skip rfl (by kernel_rfl) (by go_simp) (w' := wb6.setCell ⟨w.heap.size + 1, 0, none⟩ (.bool true)) ⟨_, HS.out, .inr ⟨_, rfl⟩⟩ rfl ?_
            refine wpAnyHI_done (by kernel_rfl) ?_ _
            dsimp only [noPanic]
            gi_wp2
            obtain ⟨hbx, hK⟩ := HBX.out
            obtain ⟨hf1, hf2, hf3⟩ := HFI.out
            have bx : Boxed ((wb6.setCell ⟨w.heap.size + 1, 0, none⟩ (.bool true)).putObj w5.heap.size (.deferred none)) (w.heap.size + 1) 4 (.bool true) := (hbx.set _).kept (grownBy_putObj' _ _ (.deferred none)) (fun e => by have := Option.some.inj e; omega)
            have hK' : (wb6.setCell ⟨w.heap.size + 1, 0, none⟩ (.bool true)).heap[w5.heap.size]? = some (.deferred (some [])) := (Below.heap_setCell _ _ _ _ (by simp only; omega)).trans hK
            refine ⟨by simp, .inl ⟨_, _, rfl, run_takeDeferred hK', ?_⟩⟩
            refine ⟨_, results_box rfl _ _ _ _ rfl (load_bool bx.cell), rfl, ?_⟩
            have h1 := hf1.trans ((HBR.out.trans (Below.mono HS.out HBR.out.size)).mono hf1.size)
            have h2 := h1.trans ((Below.refl _ _).setCell (p := ⟨w.heap.size + 1, 0, none⟩) (by simp only; omega) (.bool true))
            exact h2.trans ((Below.refl _ _).grown (grownBy_putObj' _ w5.heap.size (.deferred none)) h2.size (fun k e => by cases e; omega))
  case stop =>
    rintro D c O pre W _ _ h _ _
    exact h.elim
end Go.Proofs.Ytfoangiphbmipaa
