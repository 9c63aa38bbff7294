/- TypesArrows. -/
import Derived.Test.YtagdpohgicihnaaDoorAwB
import Derived.Test.YtagdpohgicihnaaDoorTyO
import Derived.Test.YtagdpohgicihnaaDoorTyL
import Derived.Test.YtagdpohgicihnaaDoorTyP
import Derived.Deep.RegionWith
namespace Go.Proofs.YtagdpohgicihnaaDoor
open Go.RowKit Go.Shelf
attribute [local go_sem ↓] builtin_app

theorem img_refl (f : Fo) : Img idn f f := by
  induction f with
  | nil => trivial
  | cons k n u ps r ih1 ih2 => simp only [Img, nm_id]; exact ⟨trivial, trivial, ih1, ih2⟩
theorem img_symm {f g : Fo} (h : Img idn f g) : Img idn g f := by
  induction f generalizing g with
  | nil => cases g <;> simp_all [Img]
  | cons k n u ps r ih1 ih2 =>
    cases g with
    | nil => simp [Img] at h
    | cons k' n' u' ps' r' =>
      simp only [Img, nm_id] at h ⊢
      exact ⟨h.1.symm, h.2.1.symm, ih1 h.2.2.1, ih2 h.2.2.2⟩
theorem arrF_size (f : Fo) : f.arrF.2.2.size ≤ f.size + f.len := by
  induction f with
  | nil => simp [Fo.arrF, Fo.size]
  | cons k n u ps r _ ih =>
    unfold Fo.arrF
    split
    · simp only [Fo.size, Fo.len]; omega
    · simp only [Fo.size, Fo.len]; omega
theorem cell_block {w W : World} {b : Nat} (h : W.heap[b]? = w.heap[b]?) (off : Nat) : W.cell? ⟨b, off, none⟩ = w.cell? ⟨b, off, none⟩ := by
  unfold World.cell?
  simp only [h]
/-- What is wanted so far: it does not lie in the variable itself. -/
def Want (F : Fo) (m : Nat) (w wr : World) (k n : Int) (u : Sl) : Prop :=
  wr.heap[w.heap.size]? = some (Obj.cells #[.int .i64 k, .int .i64 n, slv u] 24) ∧
  ∃ g, (∀ W : World, wr.heap.size ≤ W.heap.size → (∀ b, b < wr.heap.size → b ≠ w.heap.size → W.heap[b]? = wr.heap[b]?) → TyV W.heap.size W g (slv u)) ∧ k = (F.drop m).arrF.1 ∧ n = (F.drop m).arrF.2.1 ∧ Img idn (F.drop m).arrF.2.2 g
theorem Want.last {F : Fo} {w W4 : World} {i : Nat} {pk pn : Int} {p : Sl} {pf : Fo} (hds : F.drop i = .cons pk pn p pf (F.drop (i + 1))) (hl : (F.drop (i + 1)).len = 0) (hch : TyV w.heap.size w pf (slv p)) (hb : Below w.heap.size w W4)
    (h4 : W4.heap[w.heap.size]? = some (Obj.cells #[.int .i64 pk, .int .i64 pn, slv p] 24)) : Want F i w W4 pk pn p := by
  have hs4 := hb.size
  refine ⟨h4, pf, fun W hs hk => hch.keep (by omega) fun b off hlt => ?_, ?_, ?_, ?_⟩
  · exact (cell_block (hk b (by omega) (by omega)) off).trans (hb.cell (p := ⟨b, off, none⟩) hlt)
  · rw [hds, Fo.arrF, if_pos hl]
  · rw [hds, Fo.arrF, if_pos hl]
  · rw [hds, Fo.arrF, if_pos hl]
    exact img_refl _
theorem Want.next {F : Fo} {w wr W5 : World} {i : Nat} {k n pk pn : Int} {u p : Sl} {pf : Fo} (hds : F.drop i = .cons pk pn p pf (F.drop (i + 1))) (hl : (F.drop (i + 1)).len ≠ 0) (hch : TyV w.heap.size w pf (slv p)) (hb : Below w.heap.size w W5) (hw : Want F (i + 1) w wr k n u)
    (N : Nat) (hN : wr.heap.size ≤ N) (hNW : N < W5.heap.size) (hnew : W5.heap[N]? = some (Obj.cells #[.int .i64 pk, .int .i64 pn, slv p, .int .i64 k, .int .i64 n, slv u] 24)) (hold : ∀ b, b < wr.heap.size → b ≠ w.heap.size → W5.heap[b]? = wr.heap[b]?) (hsz : wr.heap.size ≤ W5.heap.size) (hD : w.heap.size < wr.heap.size)
    (h4 : W5.heap[w.heap.size]? = some (Obj.cells #[.int .i64 4, .int .i64 0, slv (some ⟨N, 0, none⟩, 2, 2)] 24)) : Want F i w W5 4 0 (some ⟨N, 0, none⟩, 2, 2) := by
  obtain ⟨_, g, hg, hk1, hn1, hi⟩ := hw
  refine ⟨h4, .cons pk pn p pf (.cons k n u g .nil), fun W hs hk => ?_, ?_, ?_, ?_⟩
  · have hN2 := (hk N hNW (by omega)).trans hnew
    refine two_cells N 2 pk pn k n p u pf g (by omega) (Nat.le_refl _) (by unfold maxLen; omega) (cell_of_row W N 0 _ _ (0, 0) hN2) (cell_of_row W N 1 _ _ (0, 0) hN2) (cell_of_row W N 2 _ _ (0, 0) hN2) (cell_of_row W N 3 _ _ (0, 0) hN2) (cell_of_row W N 4 _ _ (0, 0) hN2) (cell_of_row W N 5 _ _ (0, 0) hN2) ?_ ?_
    · exact hch.keep (by omega) fun b off hlt => (cell_block (hk b (by omega) (by omega)) off).trans (hb.cell (p := ⟨b, off, none⟩) hlt)
    · exact hg W (by omega) fun b h1 h2 => (hk b (by omega) h2).trans (hold b h1 h2)
  · rw [hds, Fo.arrF, if_neg hl]
  · rw [hds, Fo.arrF, if_neg hl]
  · rw [hds, Fo.arrF, if_neg hl]
    simp only [Img, nm_id]
    exact ⟨trivial, trivial, img_refl _, hk1, hn1, hi, trivial⟩
set_option maxRecDepth 100000 in
set_option maxHeartbeats 4000000 in
theorem arrows_any (w : World) (F : Fo) (vl : Value) (hvl : TyV w.heap.size w F vl) (ht : Tab w) :
    Calls Tryd.prog 5 #[vl] w fun e w' => e = .returned (.bool true) ∧ Below w.heap.size w w' := by
  obtain ⟨A, c, rfl⟩ := hvl.slice
  have hml : F.len ≤ maxLen := by
    rcases Nat.eq_zero_or_pos F.len with h0 | h0
    · omega
    · obtain ⟨_, _, cap, _, h1, h2, _⟩ := hvl.form h0
      exact Nat.le_trans h1 h2
  replace hml : F.len ≤ 9223372036854775807 := by unfold maxLen at hml; omega
  have H := Lib.hid hvl
  have HT := Lib.hid ht
  clear hvl ht
  rcases Nat.lt_or_ge 12 F.len with h12 | h12
  · have f0 : decide ((12 : Int) < (F.len : Int)) = true := decide_eq_true (by omega)
    go_enter Tryd.func5, Tryd.ntmps5
    go_wp2_with (go_at_call 11; refine (awake_any w HT.out).mono ?_; rintro e w2 ⟨rfl, hb2⟩)
    go_ret
    exact ⟨rfl, hb2⟩
  · have f0 : decide ((12 : Int) < (F.len : Int)) = false := decide_eq_false (by omega)
    go_enter Tryd.func5, Tryd.ntmps5
    obtain ⟨W0, hW0⟩ : ∃ W0, w.alloc (.cells #[.int .i64 0, .int .i64 0, .slice none 0 0] 24) = W0 := ⟨_, rfl⟩
    have hx0 : W0.heap[w.heap.size]? = some (Obj.cells #[.int .i64 0, .int .i64 0, .slice none 0 0] 24) := by rw [← hW0]; exact heap_alloc_new w _
    have hb0 : Below w.heap.size w W0 := by rw [← hW0]; exact (Below.refl _ _).alloc (Nat.le_refl _) _
    obtain ⟨r0, r1, r2, z0, z1, z2, W1, hW1, h1, hsz1, hfar1, hbl1⟩ := set3 (w := W0) w.heap.size _ _ _ (.int .i64 0) (.int .i64 0) (.slice none 0 0) hx0
    have HB0 := Lib.hid (hb0.trans hbl1)
    have HW := Lib.hid (show Want F F.len w W1 0 0 (none, 0, 0) from ⟨h1, .nil, fun _ _ _ => no_parts _ _, by rw [F.drop_len]; rfl, by rw [F.drop_len]; rfl, by rw [F.drop_len]; trivial⟩)
    clear hx0 hb0 h1 hsz1 hfar1 hbl1
    go_wp2_with fail
    go_loopw [4] (fun t4 wr => ∃ (m : Nat) (k n : Int) (u : Sl), m ≤ F.len ∧ t4 = .int .i64 ((m : Int) - 1) ∧ (F.drop m).size ≤ 300 * (F.len - m) ∧ Below w.heap.size w wr ∧ Want F m w wr k n u) (fun t _ => (intOf t + 1).toNat)
    case atStart =>
      refine ⟨F.len, 0, 0, (none, 0, 0), Nat.le_refl _, rfl, ?_, HB0.out, HW.out⟩
      rw [F.drop_len]
      simp [Fo.size]
    case round =>
      obtain ⟨m, k, n, ⟨u1, u2, u3⟩, hm, rfl, hsz, hb, hw⟩ := hrel
      have HB := Lib.hid hb
      have HWT := Lib.hid hw
      have HSZ := Lib.hid hsz
      have hDb := hw.1
      have hsw := hb.size
      have hlD : w.heap.size < wr.heap.size := (Array.getElem?_eq_some_iff.1 hDb).1
      have htb := Lib.hid (HT.out.below hb)
      clear hb hw hsz
      rcases Nat.eq_zero_or_pos m with rfl | hm0
      · obtain ⟨hD, g, hg, hk, hn, hi⟩ := HWT.out
        rw [F.drop_zero] at hk hn hi
        have hsF := HSZ.out
        rw [F.drop_zero] at hsF
        have hasz := arrF_size F
        have hgsz := hi.size
        have hFT := fun X : World => fun (hX : X.heap.size = wr.heap.size) (hc : ∀ b off, X.cell? ⟨b, off, none⟩ = wr.cell? ⟨b, off, none⟩) => arrow_any X F (.slice A F.len c) (H.out.keep (by omega) fun b off hb' => (hc b off).trans (HB.out.cell (p := ⟨b, off, none⟩) hb')) (by omega)
        generalize F.arrF = ax at *
        obtain ⟨ak, an, af⟩ := ax
        dsimp only at hk hn hi hasz hgsz hFT
        subst hk; subst hn
        have x0 : wr.cell? ⟨w.heap.size, 0, none⟩ = some (.int .i64 k) := cell_of_row wr _ 0 _ _ (0, 0) hD
        have x1 : wr.cell? ⟨w.heap.size, 1, none⟩ = some (.int .i64 n) := cell_of_row wr _ 1 _ _ (0, 0) hD
        have x2 : wr.cell? ⟨w.heap.size, 2, none⟩ = some (.slice u1 u2 u3) := cell_of_row wr _ 2 _ _ (0, 0) hD
        have HFT := Lib.hid hFT
        have HG := Lib.hid (hg wr (Nat.le_refl _) fun _ _ _ => rfl)
        have HI := Lib.hid hi
        have hgb : g.size ≤ 1000000 := by omega
        have hab : af.size ≤ 1000000 := by omega
        clear hD hg hi hFT hDb hsF hasz hgsz
        go_wp2_with fail
        go_region_with (first
          | (go_at_call 28; refine (HFT.out _ ?_ ?_).mono ?_; rfl; (intro _ _; rfl); rintro e w2 ⟨⟨a1, a2, a3⟩, rfl, hb2, hf2⟩; have hb2' := Below.trans (show Below wr.heap.size wr _ from by go_grown) hb2; obtain ⟨g2, hi2, hT2⟩ := hf2.now; have y0 := (hb2'.cell (p := ⟨w.heap.size, 0, none⟩) hlD).trans x0; have y1 := (hb2'.cell (p := ⟨w.heap.size, 1, none⟩) hlD).trans x1; have y2 := (hb2'.cell (p := ⟨w.heap.size, 2, none⟩) hlD).trans x2; have HI2 := Lib.hid hi2; have HT2 := Lib.hid hT2; have HB2 := Lib.hid hb2'; have hs2 := hi2.size; clear hi2 hT2 hb2 hb2' hf2; dsimp only [tyVal, slv])
          | (go_at_call 24; refine (rsame_any _ g2 g k n k n _ (.slice u1 u2 u3) _ (Nat.lt_succ_self _) (by omega) hgb (HT2.out.keep (Nat.le_refl _) fun _ _ _ => rfl) ((HG.out.below HB2.out).keep HB2.out.size fun _ _ _ => rfl)).mono ?_; rintro e w3 ⟨rfl, hb3⟩; have HB3 := Lib.hid hb3; rw [show (k == k && n == n && g2.same g) = true by simp [Img.same ((img_symm HI2.out).trans HI.out)]]; clear hb3)
          | (go_at_call 11; refine (awake_any _ ((htb.out.below HB2.out).below HB3.out)).mono ?_; rintro e w4 ⟨rfl, hb4⟩; have HB4 := Lib.hid hb4; clear hb4)
          | fail)
        all_goals go_wp2_with fail
        all_goals refine bodyPost_ret (results_tmp rfl _ _ _) rfl ?_
        all_goals exact ⟨rfl, HB.out.trans ((((HB2.out.trans (HB3.out.mono HB2.out.size)).trans (HB4.out.mono (HB2.out.trans (HB3.out.mono HB2.out.size)).size))).mono hsw)⟩
      · obtain ⟨i, rfl⟩ : ∃ i, m = i + 1 := ⟨m - 1, by omega⟩
        rw [show (((i + 1 : Nat) : Int) - 1) = (i : Int) from by omega]
        obtain ⟨b, off, cap, hv, _, _, hlt, hC⟩ := H.out.form (by omega)
        injection hv with hA _ hcc
        subst hA; subst hcc
        obtain ⟨d0, d1, d2, hch⟩ := tyC_at hC i (by omega)
        have c0 := (HB.out.cell (p := ⟨b, off + i * 3, none⟩) hlt).trans d0
        have c1 := (HB.out.cell (p := ⟨b, off + i * 3 + 1, none⟩) hlt).trans d1
        have c2 := (HB.out.cell (p := ⟨b, off + i * 3 + 2, none⟩) hlt).trans d2
        have hch' : TyV wr.heap.size wr (F.at_ i).2.2.2 (slv (F.at_ i).2.2.1) := hch.keep HB.out.size fun b off hb' => HB.out.cell (p := ⟨b, off, none⟩) hb'
        have HSD := Lib.hid (F.size_drop_step i (by omega))
        have HDS := Lib.hid (F.drop_step i (by omega))
        have hgr := great_any (F.at_ i).2.2.2 (F.at_ i).1 (F.at_ i).2.1 (slv (F.at_ i).2.2.1) wr hch'
        have HCH := Lib.hid hch
        clear d0 d1 d2 hC hch hch'
        unfold tyVal at hgr
        generalize F.at_ i = p at *
        obtain ⟨pk, pn, ⟨p1, p2, p3⟩, pf⟩ := p
        dsimp only [slv] at hgr c0 c1 c2
        obtain ⟨gb, hgb⟩ : ∃ gb, (!(decide (1 + pf.size ≤ 300) && decide (1 + pf.depth ≤ 40))) = gb := ⟨_, rfl⟩
        rw [hgb] at hgr
        have HGR := Lib.hid hgr
        have HGB := Lib.hid hgb
        clear hgr hgb
        cases gb with
        | true =>
          go_wp2_with (first
            | (go_at_call 10; refine HGR.out.mono ?_; rintro e w2 ⟨rfl, hb2⟩; have HB2 := Lib.hid hb2; clear hb2)
            | (go_at_call 11; refine (awake_any w2 (htb.out.below HB2.out)).mono ?_; rintro e w3 ⟨rfl, hb3⟩)
            | fail)
          go_ret
          exact ⟨rfl, HB.out.trans ((HB2.out.trans (hb3.mono HB2.out.size)).mono hsw)⟩
        | false =>
          have hps : pf.size ≤ 299 := by
            have := HGB.out
            simp at this
            omega
          have hlb : b < wr.heap.size := by omega
          have hnl := F.len_drop (i + 1)
          rcases Nat.eq_zero_or_pos (F.drop (i + 1)).len with hl | hl
          · have f1 : ((i : Int) == (F.len : Int) - 1) = true := by simp; omega
            have HN := Lib.hid (And.intro hnl hl)
            have HDB := Lib.hid hDb
            clear hnl hl hDb
            go_wp2_with (first
              | (go_at_call 10; refine HGR.out.mono ?_; rintro e w2 ⟨rfl, hb2⟩; have y0 := (hb2.cell (p := ⟨b, off + i * 3, none⟩) hlb).trans c0; have y1 := (hb2.cell (p := ⟨b, off + i * 3 + 1, none⟩) hlb).trans c1; have y2 := (hb2.cell (p := ⟨b, off + i * 3 + 2, none⟩) hlb).trans c2; obtain ⟨r0, r1, r2, z0, z1, z2, W4, hW4, h4, hsz4, hfar, hb4⟩ := set3 (w := w2) w.heap.size _ _ _ (.int .i64 pk) (.int .i64 pn) (.slice p1 p2 p3) ((hb2.block _ hlD).trans HDB.out); have HB2 := Lib.hid hb2; have H4 := Lib.hid (And.intro h4 hb4); clear hb2 h4 hsz4 hfar hb4)
              | fail)
            go_roundw
            case rel =>
              have hB4 : Below w.heap.size w W4 := HB.out.trans ((HB2.out.mono hsw).trans H4.out.2)
              refine ⟨i, pk, pn, (p1, p2, p3), by omega, by go_num, ?_, hB4, Want.last HDS.out HN.out.2 HCH.out hB4 H4.out.1⟩
              have h1 := HSD.out
              have h2 := HSZ.out
              have h3 := HN.out
              omega
            case measure => simp [intOf] <;> omega
          · have f1 : ((i : Int) == (F.len : Int) - 1) = false := beq_eq_false_iff_ne.2 (by omega)
            have HN := Lib.hid (And.intro hnl hl)
            have HDB := Lib.hid hDb
            have e0 : wr.cell? ⟨w.heap.size, 0, none⟩ = some (.int .i64 k) := cell_of_row wr _ 0 _ _ (0, 0) hDb
            have e1 : wr.cell? ⟨w.heap.size, 1, none⟩ = some (.int .i64 n) := cell_of_row wr _ 1 _ _ (0, 0) hDb
            have e2 : wr.cell? ⟨w.heap.size, 2, none⟩ = some (.slice u1 u2 u3) := cell_of_row wr _ 2 _ _ (0, 0) hDb
            clear hnl hl hDb
            go_wp2_with (first
              | (go_at_call 10; refine HGR.out.mono ?_; rintro e w2 ⟨rfl, hb2⟩; have y0 := (hb2.cell (p := ⟨b, off + i * 3, none⟩) hlb).trans c0; have y1 := (hb2.cell (p := ⟨b, off + i * 3 + 1, none⟩) hlb).trans c1; have y2 := (hb2.cell (p := ⟨b, off + i * 3 + 2, none⟩) hlb).trans c2; obtain ⟨r0, r1, r2, z0, z1, z2, W4, hW4, h4, hsz4, hfar, hb4⟩ := set3 (w := w2) w.heap.size _ _ _ (.int .i64 4) (.int .i64 0) (.slice (some ⟨w2.heap.size, 0, none⟩) 2 2) ((hb2.block _ hlD).trans HDB.out); have hlD2 := Nat.lt_of_lt_of_le hlD hb2.size; have hlb2 := Nat.lt_of_lt_of_le hlb hb2.size; have HB2 := Lib.hid hb2; have H4 := Lib.hid (And.intro h4 (And.intro hsz4 (And.intro hfar hb4))); clear hb2 h4 hsz4 hfar hb4)
              | fail)
            go_region_with (fail)
            all_goals go_wp2_with fail
            all_goals go_roundw
            case measure => simp [intOf] <;> omega
            case measure => simp [intOf] <;> omega
            case measure => simp [intOf] <;> omega
            all_goals
              obtain ⟨h4, hsz4, hfar, hb4⟩ := H4.out
              have hs2 := HB2.out.size
              have hB4 : Below w.heap.size w W4 := HB.out.trans ((HB2.out.mono hsw).trans hb4)
              have hnew := heap_alloc_new W4 (.cells #[.int .i64 pk, .int .i64 pn, .slice p1 p2 p3, .int .i64 k, .int .i64 n, .slice u1 u2 u3] 24)
              rw [hsz4] at hnew
              have hB5 := ((hB4.alloc (by omega) (.cells #[.int .i64 pk, .int .i64 pn, .slice p1 p2 p3, .int .i64 k, .int .i64 n, .slice u1 u2 u3] 24))).drew
              have hs5 : (W4.alloc (.cells #[.int .i64 pk, .int .i64 pn, .slice p1 p2 p3, .int .i64 k, .int .i64 n, .slice u1 u2 u3] 24)).heap.size = w2.heap.size + 1 := by simp [hsz4]
              refine ⟨i, 4, 0, (some ⟨w2.heap.size, 0, none⟩, 2, 2), by omega, by go_num, ?_, hB5, Want.next HDS.out (by have := HN.out.2; omega) HCH.out hB5 HWT.out w2.heap.size hs2 (Nat.lt_of_lt_of_eq (Nat.lt_succ_self _) hs5.symm) hnew (fun b h1 h2 => (Below.heap_alloc _ _ _ (by omega)).trans ((hfar b h2).trans (HB2.out.block b h1))) (Nat.le_trans (by omega) (Nat.le_of_eq hs5.symm)) hlD ((Below.heap_alloc _ _ _ (by omega)).trans h4)⟩
              have h1 := HSD.out
              have h2 := HSZ.out
              have h3 := HN.out
              omega
end Go.Proofs.YtagdpohgicihnaaDoor
