/- Texts of one proof, one behind the other. -/
import Derived.Test.YtifdbmdfkhnojaaDoorMgSubstApplies10
/- types.Print: the walk. -/
namespace Go.Proofs.YtifdbmdfkhnojaaDoor
open Go.RowKit Go.Shelf
attribute [local go_sem] Oper.semAt_some
attribute [local go_sem ↓] builtin_app

set_option maxRecDepth 100000 in
set_option maxHeartbeats 4000000 in
theorem print_any (w : World) (k n : Int) (u : Sl) (ps : Fo) (hps : TyV w.heap.size w ps (slv u)) (hs : ps.size < 100000) (ht : Tab w) :
    Calls Tryd.prog 33 #[tyVal k n (slv u)] w fun e w' => e = .returned (strB (if alone k n ps.len && ps.ok then oneT k n ps.txts else [])) ∧ Below w.heap.size w w' := by
  obtain ⟨u1, u2, u3⟩ := u
  obtain ⟨W0, hW0⟩ : ∃ W0, w.alloc (.cells #[.int .i64 k, .int .i64 n, .slice u1 u2 u3] 25) = W0 := ⟨_, rfl⟩
  have hb0 : Below w.heap.size w W0 := by rw [← hW0]; exact (Below.refl _ _).alloc (Nat.le_refl _) _
  have hs0 : W0.heap.size = w.heap.size + 1 := by rw [← hW0]; simp
  have hx0 : W0.heap[w.heap.size]? = some (Obj.cells #[.int .i64 k, .int .i64 n, .slice u1 u2 u3] 25) := by rw [← hW0]; exact heap_alloc_new w _
  have z0 : W0.cell? ⟨w.heap.size, 0, none⟩ = some (.int .i64 k) := cell_of_row W0 w.heap.size 0 _ _ (0, 0) hx0
  have z1 : W0.cell? ⟨w.heap.size, 1, none⟩ = some (.int .i64 n) := cell_of_row W0 w.heap.size 1 _ _ (0, 0) hx0
  have z2 : W0.cell? ⟨w.heap.size, 2, none⟩ = some (.slice u1 u2 u3) := cell_of_row W0 w.heap.size 2 _ _ (0, 0) hx0
  have hall : allAlone (Fo.cons k n (u1, u2, u3) ps .nil).pre = (alone k n ps.len && ps.ok) := by
    have := allAlone_ok (B := w.heap.size) (w := w) (.cons k n (u1, u2, u3) ps .nil) ⟨hps, trivial⟩
    simpa [Fo.ok] using this
  have hR := right_any W0 w.heap.size k n (u1, u2, u3) ps (by omega) (hps.below hb0) (by omega)
  rw [hall] at hR
  have HR := Lib.hid hR
  have HPS := Lib.hid hps
  have HX0 := Lib.hid hx0
  have HB0 := Lib.hid hb0
  clear hR hps hall hx0 hb0
  dsimp only [tyVal, slv] at HR ⊢
  refine (callsIn_wide (n := 5)).1 ?_
  refine callsIn_of_wp_marks Tryd.func33 rfl trivial ?_ rfl
  simp only [Tryd.ntmps33, List.size_toArray, List.length_cons, List.length_nil, Nat.reduceAdd, Nat.reduceSub, Array.replicate_succ, Array.replicate_zero, List.push_toArray, List.append_toArray, List.nil_append, List.cons_append]
  obtain ⟨ok, hok⟩ : ∃ ok, (alone k n ps.len && ps.ok) = ok := ⟨_, rfl⟩
  rw [hok] at HR ⊢
  cases ok
  · gi_wp2_with (refine ⟨trivial, ?_⟩; gi_at_call 37; refine (callsIn_wide.2 HR.out).mono ?_; rintro e w2 ⟨rfl, hb2⟩)
    refine ⟨_, results_tmp rfl _ _ _, rfl, HB0.out.trans (hb2.mono (by omega))⟩
  · gi_wp2_with (refine ⟨trivial, ?_⟩; gi_at_call 37; refine (callsIn_wide.2 HR.out).mono ?_; rintro e wb ⟨rfl, hb2⟩; have x0 : wb.cell? ⟨w.heap.size, 0, none⟩ = some (.int .i64 k) := cell_of_row wb w.heap.size 0 _ _ (0, 0) ((hb2.block _ (by omega)).trans HX0.out); have x1 : wb.cell? ⟨w.heap.size, 1, none⟩ = some (.int .i64 n) := cell_of_row wb w.heap.size 1 _ _ (0, 0) ((hb2.block _ (by omega)).trans HX0.out); have x2 : wb.cell? ⟨w.heap.size, 2, none⟩ = some (.slice u1 u2 u3) := cell_of_row wb w.heap.size 2 _ _ (0, 0) ((hb2.block _ (by omega)).trans HX0.out); have hlw : w.heap.size < wb.heap.size := by have := hb2.size; omega)
    have hinv : PrW w wb.heap.size (oneT k n ps.txts) (.pointer (some ⟨wb.heap.size + 1 + 1, 0, none⟩)) [] (((wb.alloc (.cells #[.pointer none, .slice none 0 0] 82)).alloc (.cells #[.string ⟨#[]⟩, .int .i64 k, .int .i64 n, .slice u1 u2 u3] 84)).alloc (.cells #[.slice (some ⟨wb.heap.size + 1, 0, none⟩) 1 1] 85)) (pws [pcT k n (u1, u2, u3) ps]) := by
      have hbw : Below w.heap.size w wb := HB0.out.trans (hb2.mono (by omega))
      simp only [Bool.and_eq_true] at hok
      refine ⟨wb.heap.size + 1 + 1, .slice (some ⟨wb.heap.size + 1, 0, none⟩) 1 1, [pcT k n (u1, u2, u3) ps], [], rfl, rfl, ?_, ⟨?_, ?_, ?_, (fun r hr => by cases hr), ?_⟩, ?_, ?_, by omega, hbw.size, List.nodup_nil, (fun r hr => by cases hr)⟩
      · simp [pws, pw]; split <;> omega
      · have := Boxed.new ((wb.alloc (.cells #[.pointer none, .slice none 0 0] 82)).alloc (.cells #[.string ⟨#[]⟩, .int .i64 k, .int .i64 n, .slice u1 u2 u3] 84)) 85 (.slice (some ⟨wb.heap.size + 1, 0, none⟩) 1 1)
        rwa [World.size_alloc, World.size_alloc] at this
      · have := own_full (wb.alloc (.cells #[.pointer none, .slice none 0 0] 82)) wb.heap.size (by simp) 84 4 1 ([pcT k n (u1, u2, u3) ps].flatMap pcC) rfl (by unfold maxLen; omega)
        rw [World.size_alloc] at this
        exact this.alloc _
      · exact ((Lib.IsBuilderF.of (Lib.fresh_isBuilder 82 5 wb)).alloc _).alloc _
      · exact ((hbw.alloc hbw.size _).alloc (by simp only [World.size_alloc]; have := hbw.size; omega) _).alloc (by simp only [World.size_alloc]; have := hbw.size; omega) _
      · simp [ptx]
      · intro p hp
        obtain rfl := List.mem_singleton.1 hp
        exact ⟨HPS.out, .inr ⟨hok.1, hok.2⟩, by simp⟩
    have htab : Tab wb := (ht.below (HB0.out.trans (hb2.mono (by omega))))
    have HINV := Lib.hid hinv
    have HTAB := Lib.hid htab
    have HBW := Lib.hid (show Below w.heap.size w wb from HB0.out.trans (hb2.mono (by omega)))
    have htx : (oneT k n ps.txts).length ≤ 5000000 := by have h1 := oneT_len k n ps.txts; have h2 := txts_len ps; omega
    have HTX := Lib.hid htx
    clear hinv htab htx hok hb2 x0 x1 x2 z0 z1 z2 hs0 hW0 ht
    generalize hTXe : oneT k n ps.txts = TX at *
    refine wpIn_loop (fun a W => ∃ (t4 t5 t6 t7 t8 t15 t16 t17 t18 t19 t20 t21 t22 t23 t24 t25 t26 t27 t28 t29 t30 t31 t32 t33 t34 t35 t36 t37 t38 t39 t40 t41 t42 : Value) (rs : List Nat), a = { tmps := #[.agg #[.int .i64 k, .int .i64 n, .slice u1 u2 u3], .pointer (some ⟨w.heap.size, 0, none⟩), .string ⟨#[]⟩, .pointer (some ⟨wb.heap.size, 0, none⟩), t4, t5, t6, t7, t8, .agg #[.int .i64 k, .int .i64 n, .slice u1 u2 u3], .bool true, .bool false, .agg #[.int .i64 k, .int .i64 n, .slice u1 u2 u3], .agg #[.string ⟨#[]⟩, .int .i64 k, .int .i64 n, .slice u1 u2 u3], .slice (some ⟨wb.heap.size + 1, 0, none⟩) 1 1, t15, t16, t17, t18, t19, t20, t21, t22, t23, t24, t25, t26, t27, t28, t29, t30, t31, t32, t33, t34, t35, t36, t37, t38, t39, t40, t41, t42], defers := rs.map mark } ∧ ∃ s, PrW w wb.heap.size TX t4 rs W s ∧ Below wb.heap.size wb W)
      (fun a W => least (fun s => ∃ rs, a.defers = rs.map mark ∧ PrW w wb.heap.size TX (a.tmps.getD 4 undef) rs W s)) ?_ ?_
    · refine ⟨_, _, _, _, _, _, _, _, _, _, _, _, _, _, _, _, _, _, _, _, _, _, _, _, _, _, _, _, _, _, _, _, _, [], rfl, _, HINV.out, ((((Below.refl _ wb).alloc (Nat.le_refl _) _).alloc (by simp) _).alloc (by simp only [World.size_alloc]; omega) _)⟩
    rintro a W ⟨t4, t5, t6, t7, t8, t15, t16, t17, t18, t19, t20, t21, t22, t23, t24, t25, t26, t27, t28, t29, t30, t31, t32, t33, t34, t35, t36, t37, t38, t39, t40, t41, t42, rs, rfl, s, hs0, hbW⟩
    obtain ⟨⟨rs0, hrs0, b4, v, L, acc, rfl, hps_, hs7, hI, htxt, hok, hb4, hwB, hnd, hrb⟩, hle⟩ := least_of (p := fun s => ∃ rs0, (rs.map mark) = rs0.map mark ∧ PrW w wb.heap.size TX t4 rs0 W s) ⟨rs, rfl, hs0⟩
    obtain rfl := mark_inj hrs0
    have hms : least (fun s => ∃ rs0, (rs.map mark) = rs0.map mark ∧ PrW w wb.heap.size TX (.pointer (some ⟨b4, 0, none⟩)) rs0 W s) = pws L := hps_.symm
    have HM := Lib.hid hms
    have e0 : W.cell? ⟨b4, 0, none⟩ = some v := hI.box.cell
    rcases List.eq_nil_or_concat L with rfl | ⟨Lq, p, rfl⟩
    · obtain ⟨A, c, rfl, _, _⟩ := own_form hI.row
      dsimp only [List.length_nil] at e0
      have hacc : acc = TX := by simpa using htxt
      subst hacc
      have HC := Lib.hid ((callsIn_wide (n := 4)).2 (Tryd.Builder_String_any_k wb.heap.size wb.heap.size acc W hI.bld hbW.size))
      have HI := Lib.hid hI
      have HND := Lib.hid hnd
      have HRB := Lib.hid hrb
      have HBWW := Lib.hid hbW
      clear hI hnd hrb hbW hs0 hle hrs0 htxt hok
      gi_wp2_with (refine ⟨trivial, ?_⟩; gi_at_call 57; refine HC.out.mono ?_; rintro e W5 ⟨rfl, _, hb5, ho5⟩)
      refine leaves_marks rs W5 HND.out (fun r hr => ho5 _ _ (HI.out.marks r hr) (by have := HRB.out r hr; simp; omega) (by intro c fz e; cases e)) ?_
      intro w' h1 h2 h3 h4 h5
      refine ⟨_, results_tmp rfl _ _ _, rfl, ?_⟩
      have hb6 : Below wb.heap.size W5 w' := ⟨h2, h3, h4, Nat.le_of_eq h1.symm, fun k hk => h5 k fun hkr => by have := HRB.out k hkr; omega⟩
      exact HBW.out.trans (((HBWW.out.trans hb5).trans hb6).mono hwB)
    · rw [List.concat_eq_append] at *
      have hrow := hI.row
      rw [List.length_append, List.length_singleton] at hrow
      obtain ⟨g, cp, rfl, hg1, hg2⟩ := own_shape hrow (by omega)
      obtain ⟨q, hq⟩ : ∃ q, Lq.length = q := ⟨_, rfl⟩
      rw [hq] at hrow
      have hpw : pws Lq + pw p ≤ 700000 := by rw [← hps_, pws_app] at hs7; simpa [pws] using hs7
      have hql : q ≤ 700000 := by have := pws_len Lq; omega
      have hcp : q + 1 ≤ cp := by
        obtain ⟨_, _, hv, h1, _⟩ := own_form hrow
        injection hv with _ _ h3
        omega
      have hz : decide ((q : Int) ≤ (cp : Int)) = true := by simp; omega
      have hz0 : (0 : Int) ≤ (q : Int) := by omega
      have hcell : ∀ j u, (pcC p)[j]? = some u → W.cell? ⟨g, q * 4 + j, none⟩ = some u := by
        intro j u hu
        have hj : j < 4 := (List.getElem?_eq_some_iff.1 hu).1
        rw [hrow.cellAt _ (by omega), List.flatMap_append, List.getElem?_append_right (by rw [pcC_len]; omega), pcC_len, hq]
        rw [show q * 4 + j - q * 4 = j by omega]
        simpa using hu
      have hrq : W.ownsRow wb.heap.size 84 4 (.slice (some ⟨g, 0, none⟩) q cp) Lq.length (Lq.flatMap pcC) := by
        rw [List.flatMap_append] at hrow
        rw [hq]
        exact own_cut hrow q (by omega) (by rw [pcC_len, hq])
      have hpk := hok p (List.mem_append_right _ (List.mem_singleton.2 rfl))
      have hokq : ∀ x ∈ Lq, PcOk w.heap.size w x := fun x hx => hok x (List.mem_append_left _ hx)
      have hb4l : b4 < W.heap.size := hI.box.lt
      have hfz : W.frozen? ⟨b4, 0, none⟩ = false := hI.box.frozen
      obtain ⟨s_, pk, pn, ⟨p1, p2, p3⟩, pps⟩ := p
      have c0 : W.cell? ⟨g, q * 4, none⟩ = some (.string ⟨s_.toArray⟩) := hcell 0 _ rfl
      have c1 : W.cell? ⟨g, q * 4 + 1, none⟩ = some (.int .i64 pk) := hcell 1 _ rfl
      have c2 : W.cell? ⟨g, q * 4 + 2, none⟩ = some (.int .i64 pn) := hcell 2 _ rfl
      have c3 : W.cell? ⟨g, q * 4 + 3, none⟩ = some (.slice p1 p2 p3) := hcell 3 _ rfl
      have hlr : Lq.length + 1 = q + 1 := by omega
      rw [hlr] at e0 hI
      obtain ⟨WS, hWS⟩ : ∃ WS, W.setCell ⟨b4, 0, none⟩ (.slice (some ⟨g, 0, none⟩) q cp) = WS := ⟨_, rfl⟩
      obtain ⟨W1, hW1⟩ : ∃ W1, WS.alloc (.cells #[.string ⟨s_.toArray⟩, .int .i64 pk, .int .i64 pn, .slice p1 p2 p3] 84) = W1 := ⟨_, rfl⟩
      have hsS : WS.heap.size = W.heap.size := by rw [← hWS]; simp [World.setCell]
      have hkS : ∀ (i : Nat), i ≠ b4 → WS.heap[i]? = W.heap[i]? := fun i hi => by rw [← hWS]; exact Below.heap_setCell _ _ _ _ (by simpa using hi)
      have hI1 : PrI w wb.heap.size b4 (.slice (some ⟨g, 0, none⟩) q cp) Lq acc rs W1 := by
        have hIS : PrI w wb.heap.size b4 (.slice (some ⟨g, 0, none⟩) q cp) Lq acc rs WS := by
          refine hI.turn (by rw [← hWS]; exact hI.box.set _) (row_kept hrq fun i cs hc => ?_) (fun i cs ty fz hty hc => ?_) (fun r hr hc => ?_) (by rw [← hWS]; exact (Below.refl _ _).setCell (p := ⟨b4, 0, none⟩) (by simp only; omega) _)
          · refine (hkS i fun e => ?_).trans hc
            rw [e, show W.heap[b4]? = _ from hI.box] at hc; cases hc
          · refine (hkS i fun e => ?_).trans hc
            rw [e, show W.heap[b4]? = _ from hI.box] at hc
            injection hc with hc
            injection hc with _ h2
            rcases hty with h | h <;> (rw [h] at h2; exact absurd h2 (by decide))
          · refine (hkS r fun e => ?_).trans hc
            rw [e, show W.heap[b4]? = _ from hI.box] at hc; cases hc
        rw [← hW1]; exact hIS.below ((Below.refl _ _).alloc (Nat.le_refl _) _)
      have hs1 : W1.heap.size = W.heap.size + 1 := by rw [← hW1, World.size_alloc, hsS]
      have hx1 : W1.heap[W.heap.size]? = some (Obj.cells #[.string ⟨s_.toArray⟩, .int .i64 pk, .int .i64 pn, .slice p1 p2 p3] 84) := by rw [← hW1, ← hsS]; exact heap_alloc_new WS _
      have y0 : W1.cell? ⟨W.heap.size, 0, none⟩ = some (.string ⟨s_.toArray⟩) := cell_of_row W1 _ 0 _ _ (0, 0) hx1
      have hwW := hbW.size
      have hb1 : Below wb.heap.size W W1 := by rw [← hW1, ← hWS]; exact ((Below.refl _ _).setCell (p := ⟨b4, 0, none⟩) (by simp only; omega) _).alloc (by simp [World.setCell]; omega) _
      have hlen : acc.length + s_.length ≤ 5000000 := by
        have h1 := HTX.out
        rw [← htxt] at h1
        simp only [List.length_append, List.reverse_append, List.reverse_cons, List.reverse_nil, List.nil_append, List.flatMap_append, List.flatMap_cons, List.flatMap_nil, List.append_nil, ptx] at h1
        omega
      have HC1 := Lib.hid ((callsIn_wide (n := 4)).2 (Tryd.Builder_WriteString_k wb.heap.size wb.heap.size (Lib.byteCells acc) ⟨s_.toArray⟩ W1 hI1.bld (by rw [Lib.byteCells_length]; show acc.length + s_.toArray.size ≤ _; simp; omega) (by omega)))
      have HI1 := Lib.hid hI1
      have HX1 := Lib.hid hx1
      have HB1 := Lib.hid hb1
      have HBWW := Lib.hid hbW
      have HRB := Lib.hid hrb
      have HND := Lib.hid hnd
      have HPK := Lib.hid hpk
      have HOK := Lib.hid hokq
      have HTT := Lib.hid htxt
      have HQQ := Lib.hid (And.intro hq hpw)
      clear hI hI1 hx1 hb1 hbW hrb hnd hpk hokq htxt hok hrow hrq hcell hle hrs0 hs0 hkS hps_ hq
      have hst2 : ∀ W2 : World, Lib.BuilderAtF 82 5 wb.heap.size wb.heap.size (.pointer (some ⟨wb.heap.size, 0, none⟩)) (Lib.byteCells acc ++ Lib.strCells ⟨s_.toArray⟩) W2 → Below wb.heap.size W1 W2 → Lib.OthersKept 5 (some wb.heap.size) W1 W2 →
          (W2.cell? ⟨W.heap.size, 1, none⟩ = some (.int .i64 pk) ∧ W2.cell? ⟨W.heap.size, 2, none⟩ = some (.int .i64 pn) ∧ W2.cell? ⟨W.heap.size, 3, none⟩ = some (.slice p1 p2 p3)) ∧ W1.heap.size ≤ W2.heap.size ∧ Below wb.heap.size wb W2 ∧ PrI w wb.heap.size b4 (.slice (some ⟨g, 0, none⟩) q cp) Lq (acc ++ s_) rs W2 ∧
            Calls Tryd.prog 56 #[tyVal pk pn (slv (p1, p2, p3))] W2 fun e w' => ∃ v, e = .returned v ∧ PcsOf w.heap.size pk pn pps W2 w' v := by
        intro W2 hbd2 hb2 ho2
        have hx2 : W2.heap[W.heap.size]? = some (Obj.cells #[.string ⟨s_.toArray⟩, .int .i64 pk, .int .i64 pn, .slice p1 p2 p3] 84) := ho2 _ _ HX1.out (by simp; omega) (by intro c fz e; cases e)
        have hI2 := HI1.out.wrote hwB (by omega) (fun r hr => by have := HRB.out r hr; omega) hbd2 hb2 ho2
        have hbb2 : Below wb.heap.size wb W2 := (HBWW.out.trans HB1.out).trans hb2
        refine ⟨⟨cell_of_row W2 _ 1 _ _ (0, 0) hx2, cell_of_row W2 _ 2 _ _ (0, 0) hx2, cell_of_row W2 _ 3 _ _ (0, 0) hx2⟩, hb2.size, hbb2, hI2, ?_⟩
        obtain ⟨hv, hor, _⟩ := HPK.out
        refine pieces_any w.heap.size pk pn (p1, p2, p3) pps W2 hor hI2.bel.size (hv.below hI2.bel) (HTAB.out.below hbb2) ?_
        have h1 := HQQ.out.2
        rcases hor with ⟨_, h⟩ | ⟨h, _⟩
        · simp only at h; rw [h]; simp [Fo.size]
        · have hne := alone_ne _ _ _ h
          simp only [pw] at h1 hne
          rw [if_neg hne] at h1
          omega
      have HS2 := Lib.hid hst2
      clear hst2
      gi_wp2_with (first
        | (refine ⟨trivial, ?_⟩; gi_at_call 54; refine HC1.out.mono ?_; rintro e W2 ⟨rfl, hbd2, hb2, ho2⟩; obtain ⟨⟨m1, m2, m3⟩, hsz2, hbb2, hI2, hcp2⟩ := HS2.out W2 hbd2 hb2 ho2; have HI2 := Lib.hid hI2; have HBB2 := Lib.hid hbb2; have HCP2 := Lib.hid hcp2; clear hbd2 hb2 ho2 hI2 hbb2 hcp2)
        | (refine ⟨trivial, ?_⟩; gi_at_call 56; refine (callsIn_wide.2 HCP2.out).mono ?_; rintro e W3 ⟨v3, rfl, L3, hrow3, hb3, htx3, hpw3, hok3, hl3⟩; obtain ⟨A3, c3', rfl, _, _⟩ := own_form hrow3; have H3 := Lib.hid (And.intro hrow3 (And.intro hb3 (And.intro htx3 (And.intro hpw3 hok3)))); clear hrow3 hb3 htx3 hpw3 hok3)
        | (refine ⟨trivial, ?_⟩; gi_at_call 55; refine (callsIn_wide.2 (back_makeP A3 L3.length c3' _)).mono ?_; rintro e W4 ⟨rfl, hW4⟩))
      obtain ⟨W5, hW5⟩ : ∃ W5, W3.alloc (.cells #[.slice A3 L3.length c3'] 85) = W5 := ⟨_, rfl⟩
      obtain ⟨hrow3, hb3, htx3, hpw3, hok3⟩ := H3.out
      have hw2b := HBB2.out.size
      have hw3 := hb3.size
      have hs5 : W5.heap.size = W3.heap.size + 1 := by rw [← hW5]; simp
      have hb35 : Below W3.heap.size W3 W5 := by rw [← hW5]; exact (Below.refl _ _).alloc (Nat.le_refl _) _
      obtain ⟨gp, hrd3, hgpb⟩ := RdO.of_own W3.heap.size hrow3
      have hrd5 : RdO gp W5 (.slice A3 L3.length c3') L3 := hrd3.keep fun o ho _ => (hb35.block gp (Array.getElem?_eq_some_iff.1 ho).1).trans ho
      have hbox5 : Boxed W5 W3.heap.size 85 (.slice A3 L3.length c3') := by rw [← hW5]; exact Boxed.new W3 _ _
      have hI5 : PrI w wb.heap.size b4 (.slice (some ⟨g, 0, none⟩) q cp) Lq (acc ++ s_) rs W5 := HI2.out.below (hb3.trans (hb35.mono hw3))
      have hbb5 : Below wb.heap.size wb W5 := HBB2.out.trans ((hb3.mono hw2b).trans (hb35.mono (by omega)))
      have hgp1 : gp ≠ b4 := by omega
      have hgp2 : gp < W5.heap.size := by omega
      have hgp3 : g ≠ gp := by omega
      have hb45 : b4 < W3.heap.size := by omega
      have hrs5 : ∀ r ∈ rs, r < W5.heap.size := fun r hr => (Array.getElem?_eq_some_iff.1 (hI5.marks r hr)).1
      have hl3' : L3.length ≤ 5000000 := by assumption
      have hql2 : Lq.length ≤ 700000 := by have := HQQ.out.1; omega
      rw [hW5]
      have HI5 := Lib.hid hI5
      have HBB5 := Lib.hid hbb5
      have HR5 := Lib.hid hrs5
      have HT3 := Lib.hid htx3
      have HP3 := Lib.hid hpw3
      have HO3 := Lib.hid hok3
      have HB3 := Lib.hid hb3
      clear hI5 hbb5 hrs5 hrow3 hb3 htx3 hpw3 hok3 hrd3 hgpb hW5 c0 c1 c2 c3 e0 hWS hW1 y0 m1 m2 m3 hz hfz
      refine wpIn_rangeG (by omega) (gf := 68) (lb := #[.pointer (some ⟨W3.heap.size, 0, none⟩)]) rfl (enters_of Tryd.func68 (by kernel_rfl) rfl)
        (back_seqP 4 (by omega) W3.heap.size gp 79 A3 c3' L3 (by omega) W5 hbox5 hrd5) (Below.refl _ _) KpQ.t KpQ.b (fun _ => rfl)
        (fun pre W6 => ∃ vt, PrI w wb.heap.size b4 vt (Lq ++ pre.map (·.2)) (acc ++ s_) rs W6 ∧ (∀ r, vt.ownBlock = some r → r ≠ gp) ∧ W5.heap.size ≤ W6.heap.size ∧ Below wb.heap.size wb W6 ∧ Boxed W6 W3.heap.size 85 (.slice A3 L3.length c3')) (fun _ _ _ => False)
        ?_ (fun _ _ _ _ _ hs _ _ => hs) ?_ (fun _ _ _ _ hs _ => hs)
        ⟨_, by simpa using HI5.out, (by intro r hr; injection hr with hr; simp only at hr; omega), Nat.le_refl _, HBB5.out, hbox5⟩
        (fun x a' W6 => ∃ Bx, W6.heap[Bx]? = some (Obj.cells #[strB x.2.s, .int .i64 x.2.k, .int .i64 x.2.n, slv x.2.u] 84) ∧ a' = { tmps := #[.agg #[.int .i64 k, .int .i64 n, .slice u1 u2 u3], .pointer (some ⟨w.heap.size, 0, none⟩), .string ⟨#[]⟩, .pointer (some ⟨wb.heap.size, 0, none⟩), .pointer (some ⟨b4, 0, none⟩), .int .i64 q, .pointer (some ⟨W.heap.size, 0, none⟩), t7, .pointer (some ⟨Bx, 0, none⟩), .agg #[.int .i64 k, .int .i64 n, .slice u1 u2 u3], .bool true, .bool false, .agg #[.int .i64 k, .int .i64 n, .slice u1 u2 u3], .agg #[.string ⟨#[]⟩, .int .i64 k, .int .i64 n, .slice u1 u2 u3], .slice (some ⟨wb.heap.size + 1, 0, none⟩) 1 1, .slice (some ⟨g, 0, none⟩) (q + 1) cp, .int .i64 ((q : Int) + 1), .bool true, .slice (some ⟨g, 0, none⟩) (q + 1) cp, .int .i64 ((q : Int) + 1), .int .i64 q, .slice (some ⟨g, 0, none⟩) (q + 1) cp, .int .i64 q, .pointer (some ⟨g, q * 4, none⟩), .agg #[.string ⟨s_.toArray⟩, .int .i64 pk, .int .i64 pn, .slice p1 p2 p3], .slice (some ⟨g, 0, none⟩) (q + 1) cp, .int .i64 q, .slice (some ⟨g, 0, none⟩) q cp, .pointer (some ⟨W.heap.size, 0, none⟩), .string ⟨s_.toArray⟩, .tuple #[.int .i64 (s_.length : Nat), .nilIface], .pointer (some ⟨W.heap.size, 1, none⟩), .agg #[.int .i64 pk, .int .i64 pn, .slice p1 p2 p3], .slice A3 L3.length c3', .func (.func 68) #[] #[.pointer (some ⟨W3.heap.size, 0, none⟩)], .int .i64 x.1, pcV x.2, t37, t38, t39, t40, t41, t42], defers := [] })
        (fun x a' s W W' row hs hg hr => by
          obtain ⟨Bx, hc, ha⟩ := hs
          refine ⟨Bx, (hg.block Bx (Array.getElem?_eq_some_iff.1 hc).1 fun e => ?_).trans hc, ha⟩
          obtain ⟨o, ho, hoc⟩ := (hr Bx e.symm).2
          rw [hc] at ho
          cases ho
          cases hoc) ?assign ?body ?done ?stop
      case assign =>
        rintro l pre x W6 K ⟨vt, hI6, hne6, hs6, hb6, hx6⟩ hK
        obtain ⟨x0, xs, xk, xn, ⟨x1, x2, x3⟩, xps⟩ := x
        dsimp only [pcV, slv, strB] at hK ⊢
        have HI6 := Lib.hid hI6
        have HB6 := Lib.hid hb6
        have HX6 := Lib.hid hx6
        clear hI6 hb6 hx6
        gi_wp2
        refine hK _ _ ((KeepsOthers.alloc _ _).from _) (fun i _ o ho _ => (Below.heap_alloc _ _ _ (Array.getElem?_eq_some_iff.1 ho).1).trans ho) ⟨vt, HI6.out.below ((Below.refl _ _).alloc (Nat.le_refl _) _), hne6, by simp; omega, HB6.out.alloc (by omega) _, HX6.out.alloc _⟩ ⟨W6.heap.size, heap_alloc_new W6 _, rfl⟩
      case body =>
        rintro l pre x a' W6 hl ⟨vt, hI6, hne6, hs6, hb6, hx6⟩ ⟨Bx, hc, rfl⟩ hlt
        obtain ⟨x0, xs, xk, xn, ⟨x1, x2, x3⟩, xps⟩ := x
        dsimp only [pcV, slv, strB] at hc ⊢
        have e0 : W6.cell? ⟨b4, 0, none⟩ = some vt := hI6.box.cell
        have y0 : W6.cell? ⟨Bx, 0, none⟩ = some (.string ⟨xs.toArray⟩) := cell_of_row W6 Bx 0 _ _ (0, 0) hc
        have y1 : W6.cell? ⟨Bx, 1, none⟩ = some (.int .i64 xk) := cell_of_row W6 Bx 1 _ _ (0, 0) hc
        have y2 : W6.cell? ⟨Bx, 2, none⟩ = some (.int .i64 xn) := cell_of_row W6 Bx 2 _ _ (0, 0) hc
        have y3 : W6.cell? ⟨Bx, 3, none⟩ = some (.slice x1 x2 x3) := cell_of_row W6 Bx 3 _ _ (0, 0) hc
        obtain ⟨L6, hL6⟩ : ∃ L6, Lq ++ pre.map (·.2) = L6 := ⟨_, rfl⟩
        have hn6 : L6.length ≤ 6000000 := by rw [← hL6]; simp; omega
        rw [hL6] at hI6
        obtain ⟨W7, hW7⟩ : ∃ W7, W7 = W6.alloc (.cells #[.string ⟨xs.toArray⟩, .int .i64 xk, .int .i64 xn, .slice x1 x2 x3] 84) := ⟨_, rfl⟩
        have rd7 : Rd W7 4 (.slice (some ⟨W6.heap.size, 0, none⟩) 1 1) 1 ([(⟨xs, xk, xn, (x1, x2, x3), xps⟩ : Pc)].flatMap pcC) := by
          rw [hW7]; exact rd_new W6 ([(⟨xs, xk, xn, (x1, x2, x3), xps⟩ : Pc)].flatMap pcC) 84 4 1 rfl (by unfold maxLen; omega)
        have own7 := hI6.row.alloc (.cells #[.string ⟨xs.toArray⟩, .int .i64 xk, .int .i64 xn, .slice x1 x2 x3] 84)
        rw [← hW7] at own7
        obtain ⟨v8, W8, hrun8, hown8, hb8, _, hg8, hat8⟩ := app_pc W7 wb.heap.size vt L6 own7 _ [(⟨xs, xk, xn, (x1, x2, x3), xps⟩ : Pc)] rd7 (by simp; omega) (by rw [hW7]; simp; have := hb6.size; omega)
        have hbox8 : Boxed W8 b4 85 vt := (hg8.block b4 (by rw [hW7]; simp; have := hI6.box.lt; omega) (hI6.box.not_row (by decide) hI6.row)).trans (by rw [hW7]; exact (Below.heap_alloc _ _ _ hI6.box.lt).trans hI6.box)
        have e8 := hbox8.cell
        have f8 := hbox8.frozen
        rw [hW7] at hg8 hat8 hrun8
        obtain ⟨g8, c8, rfl, _, _⟩ := own_shape hown8 (by simp)
        have hfin := pr_fin (gp := gp) (Bs := W3.heap.size) (v' := .slice (some ⟨g8, 0, none⟩) (L6 ++ [(⟨xs, xk, xn, (x1, x2, x3), xps⟩ : Pc)]).length c8) hI6 hwB hb4 hg8 hown8 hne6 (by omega) hgp1 ⟨_, hx6⟩ (by omega) hat8 W5.heap.size (by omega)
        have hx8 : Boxed (W8.setCell ⟨b4, 0, none⟩ (.slice (some ⟨g8, 0, none⟩) (L6 ++ [(⟨xs, xk, xn, (x1, x2, x3), xps⟩ : Pc)]).length c8)) W3.heap.size 85 (.slice A3 L3.length c3') := hfin.2.1 W3.heap.size (by simp) _ hx6 rfl
        have hF : ownPostG W5.heap.size (KpQ [gp, W3.heap.size]) (fun (pre : List (Int × Pc)) W6 => ∃ vt, PrI w wb.heap.size b4 vt (Lq ++ pre.map (·.2)) (acc ++ s_) rs W6 ∧ (∀ r, vt.ownBlock = some r → r ≠ gp) ∧ W5.heap.size ≤ W6.heap.size ∧ Below wb.heap.size wb W6 ∧ Boxed W6 W3.heap.size 85 (.slice A3 L3.length c3')) (fun _ _ _ => False) (pre ++ [(x0, (⟨xs, xk, xn, (x1, x2, x3), xps⟩ : Pc))]) W6 .normal ({ tmps := #[], defers := [] } : Act) (W8.setCell ⟨b4, 0, none⟩ (.slice (some ⟨g8, 0, none⟩) (L6 ++ [(⟨xs, xk, xn, (x1, x2, x3), xps⟩ : Pc)]).length c8)) := by
          obtain ⟨z1, z2, z3, z4, z5⟩ := hfin
          refine ⟨z1, z2, _, ?_, z4, Nat.le_trans hs6 z5.size, hb6.trans z5, hx8⟩
          have e : Lq ++ (pre ++ [(x0, (⟨xs, xk, xn, (x1, x2, x3), xps⟩ : Pc))]).map (·.2) = L6 ++ [(⟨xs, xk, xn, (x1, x2, x3), xps⟩ : Pc)] := by rw [← hL6]; simp
          rw [e]; exact z3
        have hN : (L6 ++ [(⟨xs, xk, xn, (x1, x2, x3), xps⟩ : Pc)]).length = L6.length + 1 := by simp
        rw [hN] at hF hrun8
        have HF := Lib.hid hF
        obtain ⟨Av, cv, rfl, _, _⟩ := own_form hI6.row
        clear hN hF hfin hx8 hbox8 hI6 hown8 hg8 hat8 hb8 own7 rd7 hW7 hc hb6 hx6 hne6
        gi_wp2
        exact HF.out
      case done =>
        rintro D ys W6 hD hys ⟨vt, hI6, hne6, hs6, hb6, hx6⟩ hK
        rw [hys] at hI6
        have e0 : W6.cell? ⟨b4, 0, none⟩ = some vt := hI6.box.cell
        obtain ⟨Av, cv, rfl, _, _⟩ := own_form hI6.row
        have hpwn : pws (Lq ++ L3.reverse) < pws (Lq ++ [(⟨s_, pk, pn, (p1, p2, p3), pps⟩ : Pc)]) := by
          have h1 := HP3.out
          rw [pws_app, pws_app]
          have h2 : pws L3.reverse = pws L3 := by simp [pws]
          have h3 : pws [(⟨s_, pk, pn, (p1, p2, p3), pps⟩ : Pc)] = pw ⟨s_, pk, pn, (p1, p2, p3), pps⟩ := by simp [pws]
          rw [h2, h3]
          simp only [pw]
          omega
        have hnew : PrW w wb.heap.size TX (.pointer (some ⟨W6.heap.size, 0, none⟩)) (D :: rs) (W6.alloc (.cells #[.slice Av (Lq ++ L3.reverse).length cv] 85)) (pws (Lq ++ L3.reverse)) := by
          have hal : Below W6.heap.size W6 (W6.alloc (.cells #[.slice Av (Lq ++ L3.reverse).length cv] 85)) := (Below.refl _ _).alloc (Nat.le_refl _) _
          have hI7 := hI6.below hal
          have hDl := (Array.getElem?_eq_some_iff.1 hK).1
          refine ⟨W6.heap.size, _, Lq ++ L3.reverse, acc ++ s_, rfl, rfl, by omega, ⟨Boxed.new W6 _ _, hI7.row, hI7.bld, ?_, hI7.bel⟩, ?_, ?_, by omega, hwB, ?_, ?_⟩
          · intro r hr
            rcases List.mem_cons.1 hr with rfl | hr
            · exact (hal.block _ hDl).trans hK
            · exact hI7.marks r hr
          · have h1 := HTT.out
            have h2 := HT3.out
            simp only [List.reverse_append, List.reverse_reverse, List.flatMap_append, List.reverse_cons, List.reverse_nil, List.nil_append, List.flatMap_cons, List.flatMap_nil, List.append_nil, ptx] at h1 ⊢
            rw [← h1, h2]
            simp
          · intro x hx
            rcases List.mem_append.1 hx with hx | hx
            · exact HOK.out x hx
            · have hx3 := HO3.out x (List.mem_reverse.1 hx)
              exact ⟨hx3.1.keep (Nat.le_refl _) (fun b off hb => (HI2.out.bel.cell (p := ⟨b, off, none⟩) hb).symm), hx3.2⟩
          · refine List.nodup_cons.2 ⟨fun h => ?_, HND.out⟩
            have := HR5.out D h
            omega
          · intro r hr
            rcases List.mem_cons.1 hr with rfl | hr
            · omega
            · exact HRB.out r hr
        have hNl : (Lq ++ L3.reverse).length = Lq.length + L3.length := by simp
        rw [hNl] at hnew
        have HN := Lib.hid hnew
        have HPW := Lib.hid hpwn
        have HB6 := Lib.hid (show Below wb.heap.size wb (W6.alloc (.cells #[.slice Av (Lq.length + L3.length) cv] 85)) from hb6.alloc (by omega) _)
        clear hNl hnew hpwn hI6 hne6 hb6 hx6 hK hys hD
        gi_wp2
        refine ⟨⟨_, _, _, _, _, _, _, _, _, _, _, _, _, _, _, _, _, _, _, _, _, _, _, _, _, _, _, _, _, _, _, _, _, D :: rs, rfl, _, HN.out, HB6.out⟩, ?_⟩
        exact Nat.lt_of_lt_of_eq (Nat.lt_of_le_of_lt (least_of (p := fun s => ∃ rs0, (mark D :: rs.map mark) = rs0.map mark ∧ PrW w wb.heap.size TX (.pointer (some ⟨W6.heap.size, 0, none⟩)) rs0 (W6.alloc (.cells #[.slice Av (Lq.length + L3.length) cv] 85)) s) ⟨D :: rs, rfl, HN.out⟩).2 HPW.out) HM.out.symm
      case stop =>
        rintro D c pre W _ _ h _
        exact h.elim
      · rintro pre W6 W7 row ⟨vt, hI6, hne6, hs6, hb6, hx6⟩ hg hr
        refine ⟨vt, hI6.own (by omega) HR5.out hg.size row hg hr, hne6, Nat.le_trans hs6 hg.size, ?_, Own.from (boxed_own _ _ (fun (_ : Unit) => .slice A3 L3.length c3')) W5.heap.size () _ _ row hx6 hg hr⟩
        exact ⟨hg.os.trans hb6.os, hg.tape.trans hb6.tape, hg.output.trans hb6.output, Nat.le_trans hb6.size hg.size, fun i hi => (hg.block i (Nat.lt_of_lt_of_le hi hb6.size) (fun e => by have := (hr i e.symm).1; omega)).trans (hb6.block i hi)⟩
      · rintro pre W6 W7 ⟨vt, hI6, hne6, hs6, hb6, hx6⟩ hc
        have hc' := hc
        exact ⟨vt, hI6.ab (by omega) hc, hne6, by obtain ⟨_, hg, _⟩ := hc; exact Nat.le_trans hs6 hg.size, hb6.trans (hc'.below (by omega) hb6.size), hc'.box (by decide) hx6⟩
end Go.Proofs.YtifdbmdfkhnojaaDoor
