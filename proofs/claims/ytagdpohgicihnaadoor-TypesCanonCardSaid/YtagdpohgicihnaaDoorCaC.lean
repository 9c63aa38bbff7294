/- types.Canon. -/
import Derived.Test.YtagdpohgicihnaaDoorCaB
import Derived.Test.YtagdpohgicihnaaDoorLaA
import Derived.Deep.DeepCutAuto
namespace Go.Proofs.YtagdpohgicihnaaDoor
open Go.RowKit Go.Shelf Go.Maps Go.WideShapes

theorem take_not {L : List Int} (h : L.Nodup) (j : Nat) (hj : j < L.length) : ¬ L[j] ∈ L.take j := by
  intro hm
  have h2 : (L.take (j + 1)).Nodup := h.sublist (List.take_sublist _ _)
  rw [← List.take_append_getElem hj, List.nodup_append] at h2
  exact h2.2.2 _ hm _ (by simp) rfl
theorem list_one {W : World} {F : Fo} {k n : Int} {u : Sl} (h : TyV W.heap.size W F (slv u)) : TyV (W.alloc (.cells #[.int .i64 k, .int .i64 n, slv u] 24)).heap.size (W.alloc (.cells #[.int .i64 k, .int .i64 n, slv u] 24)) (.cons k n u F .nil) (.slice (some ⟨W.heap.size, 0, none⟩) 1 1) := by
  have hb : Below W.heap.size W (W.alloc (.cells #[.int .i64 k, .int .i64 n, slv u] 24)) := (Below.refl _ _).alloc (Nat.le_refl _) _
  have hx := heap_alloc_new W (.cells #[.int .i64 k, .int .i64 n, slv u] 24)
  refine tyV_cons.2 ⟨W.heap.size, 0, 1, rfl, by simp [Fo.len], by unfold maxLen; omega, by simp, tyC_cons.2 ⟨cell_of_row _ _ 0 _ _ (0, 0) hx, cell_of_row _ _ 1 _ _ (0, 0) hx, cell_of_row _ _ 2 _ _ (0, 0) hx, ?_, tyC_nil⟩⟩
  exact h.keep hb.size fun b off hlt => hb.cell (p := ⟨b, off, none⟩) hlt
set_option maxRecDepth 100000 in
set_option maxHeartbeats 4000000 in
theorem canon_any (w : World) (k n : Int) (u : Sl) (F : Fo) (hF : TyV w.heap.size w F (slv u)) (hs : F.size < 10000) (hn : (Lit.int .i64 n).wf = true) (hwF : F.wf) (L : List Int) (hL : varsL [] ((k, n, ((none, 0, 0) : Sl)) :: F.pre) = L) :
    Calls Tryd.prog 29 #[tyVal k n (slv u)] w fun e w' => ∃ u' : Sl, e = .returned (tyVal k (nm (idx L) k n) (slv u')) ∧ Below w.heap.size w w' ∧ FreshT 24 w.heap.size w' (idx L) F u' := by
  obtain ⟨u1, u2, u3⟩ := u
  have hLl : L.length ≤ 20000 := by
    rw [← hL]
    have := varsL_len ((k, n, ((none, 0, 0) : Sl)) :: F.pre) []
    simp [Fo.pre_len] at this
    omega
  have hLn : L.Nodup := hL ▸ varsL_nodup _ [] (by simp)
  have hLw : ∀ a ∈ L, (Lit.int .i64 a).wf = true := hL ▸ varsL_wf _ [] (by simp) (fun x hx => by
    rcases List.mem_cons.1 hx with rfl | hx
    · exact hn
    · exact Fo.wf_pre hwF x hx)
  have hL1 : varsL [] (Fo.cons k n (u1, u2, u3) F .nil).pre = L := by rw [← hL]; simp [Fo.pre, varsL, addV]
  obtain ⟨w4, hw4⟩ : ∃ w4, (((w.alloc (.cells #[.int .i64 k, .int .i64 n, .slice u1 u2 u3] 24)).alloc (.cells #[.int .i64 0, .int .i64 0, .slice none 0 0] 24)).alloc (.map #[] 0)).alloc (.cells #[.map (some (w.heap.size + 1 + 1))] 83) = w4 := ⟨_, rfl⟩
  have hs4 : w4.heap.size = w.heap.size + 4 := by rw [← hw4]; simp
  have hb4 : Below w.heap.size w w4 := by rw [← hw4]; exact ((((Below.refl _ w).alloc (Nat.le_refl _) _).alloc (by simp) _).alloc (by simp only [World.size_alloc]; omega) _).alloc (by simp only [World.size_alloc]; omega) _
  have h0 : w4.heap[w.heap.size]? = some (.cells #[.int .i64 k, .int .i64 n, .slice u1 u2 u3] 24) := by
    rw [← hw4]
    exact (Below.heap_alloc _ _ _ (by simp only [World.size_alloc]; omega)).trans ((Below.heap_alloc _ _ _ (by simp only [World.size_alloc]; omega)).trans ((Below.heap_alloc _ _ _ (by simp)).trans (heap_alloc_new w _)))
  have h1 : w4.heap[w.heap.size + 1]? = some (.cells rt0 24) := by
    rw [← hw4]
    refine (Below.heap_alloc _ _ _ (by simp only [World.size_alloc]; omega)).trans ((Below.heap_alloc _ _ _ (by simp only [World.size_alloc]; omega)).trans ?_)
    have := heap_alloc_new (w.alloc (.cells #[.int .i64 k, .int .i64 n, .slice u1 u2 u3] 24)) (.cells #[.int .i64 0, .int .i64 0, .slice none 0 0] 24)
    rwa [World.size_alloc] at this
  have h2 : MapP [] (w.heap.size + 1 + 1) w4 := by
    have h := MapP.made ((w.alloc (.cells #[.int .i64 k, .int .i64 n, .slice u1 u2 u3] 24)).alloc (.cells #[.int .i64 0, .int .i64 0, .slice none 0 0] 24))
    simp only [World.size_alloc] at h
    rw [← hw4]
    exact h.of_block (Below.heap_alloc _ _ _ (by simp only [World.size_alloc]; omega))
  have h3 : Boxed w4 (w.heap.size + 1 + 1 + 1) 83 (.map (some (w.heap.size + 1 + 1))) := by
    rw [← hw4]
    have := heap_alloc_new (((w.alloc (.cells #[.int .i64 k, .int .i64 n, .slice u1 u2 u3] 24)).alloc (.cells #[.int .i64 0, .int .i64 0, .slice none 0 0] 24)).alloc (.map #[] 0)) (.cells #[.map (some (w.heap.size + 1 + 1))] 83)
    simp only [World.size_alloc] at this
    exact this
  have hF4 : TyV w4.heap.size w4 F (slv (u1, u2, u3)) := hF.keep hb4.size fun b off hlt => hb4.cell (p := ⟨b, off, none⟩) hlt
  have c0 : w4.cell? ⟨w.heap.size, 0, none⟩ = some (.int .i64 k) := cell_of_row w4 _ 0 _ _ (0, 0) h0
  have c1 : w4.cell? ⟨w.heap.size, 1, none⟩ = some (.int .i64 n) := cell_of_row w4 _ 1 _ _ (0, 0) h0
  have c2 : w4.cell? ⟨w.heap.size, 2, none⟩ = some (.slice u1 u2 u3) := cell_of_row w4 _ 2 _ _ (0, 0) h0
  have hV := vars_any (w4.alloc (.cells #[.int .i64 k, .int .i64 n, .slice u1 u2 u3] 24)) _ (.cons k n (u1, u2, u3) F .nil) _ (Nat.le_refl _) (list_one hF4) (by simp [Fo.size]; omega) ⟨hn, hwF, trivial⟩
  rw [hL1] at hV
  have HV := Lib.hid hV
  have H0 := Lib.hid h0
  have H1 := Lib.hid h1
  have H2 := Lib.hid h2
  have H3 := Lib.hid h3
  have HB4 := Lib.hid hb4
  have HF := Lib.hid hF
  have HLW := Lib.hid hLw
  have HLN := Lib.hid hLn
  have hmm := @run_makeMap Tryd.prog
  clear hV h0 h1 h2 h3 hb4 hF hF4 hLw hLn hL hL1 hwF hn
  have hs4' : w.heap.size + 4 ≤ w4.heap.size := by omega
  clear hs4
  dsimp only [tyVal, slv] at HV ⊢
  go_enter Tryd.func29, Tryd.ntmps29
  go_upto_region 2 with fail
  clear hw4 hmm
  go_wp2_with fail
  refine HV.out.mono ?_
  rintro e w6 ⟨v9, rfl, hR9, hb6⟩
  obtain ⟨A9, c9, rfl⟩ := hR9.form
  obtain ⟨q, hq⟩ : ∃ q, L.length = q := ⟨_, rfl⟩
  have hb46 : Below w4.heap.size w4 w6 := ((Below.refl _ _).alloc (Nat.le_refl _) _).trans (hb6.mono (by simp))
  have hs6 := hb46.size
  have M6 := Lib.hid (H2.out.of_block (hb46.block _ (by omega)))
  have HB46 := Lib.hid hb46
  have HR := Lib.hid hR9
  have HQ := Lib.hid hq
  rw [hq] at hLl ⊢
  clear hR9 hb46 hq hb6
  go_wp2_with fail
  go_loopw [11] (fun t11 wr => ∃ j : Nat, j ≤ q ∧ t11 = .int .i64 j ∧ MapP (L.take j) (w.heap.size + 1 + 1) wr ∧ w6.grownBy wr (some (w.heap.size + 1 + 1))) (fun t _ => q - (intOf t).toNat)
  case atStart => exact ⟨0, Nat.zero_le _, rfl, by simpa using M6.out, World.grownBy.refl _ _⟩
  case round =>
    obtain ⟨j, hj, rfl, hm, hg⟩ := hrel
    have kp : ∀ b, b < w4.heap.size → b ≠ w.heap.size + 1 + 1 → wr.heap[b]? = w4.heap[b]? := fun b hb hne => (hg.block b (by omega) (by simp; omega)).trans (HB46.out.block b hb)
    have e3 : wr.cell? ⟨w.heap.size + 1 + 1 + 1, 0, none⟩ = some (.map (some (w.heap.size + 1 + 1))) := (cell_block (kp _ (by omega) (by omega)) 0).trans H3.out.cell
    have KP := Lib.hid kp
    have hgs := hg.size
    have HG := Lib.hid hg
    have HM := Lib.hid hm
    clear kp hg hm
    by_cases hjl : j < q
    · have hjL : j < L.length := by rw [HQ.out]; exact hjl
      obtain ⟨b, off, cap, hv, _, _, hlt, hc⟩ := HR.out.2.resolve_left (by rintro ⟨h, _⟩; omega)
      injection hv with hA _ hcc
      subst hA; subst hcc
      obtain ⟨x, hx⟩ : ∃ x, L[j] = x := ⟨_, rfl⟩
      have hw0 : w6.cell? ⟨b, off + j, none⟩ = some (.int .i64 x) := hc j _ (by rw [ints, List.getElem?_map, List.getElem?_eq_getElem hjL, hx]; rfl)
      have hbm : b ≠ w.heap.size + 1 + 1 := by
        intro e
        subst e
        obtain ⟨es, ck, hmm⟩ := M6.out.isMap
        simp [World.cell?, hmm] at hw0
      have cx : wr.cell? ⟨b, off + j, none⟩ = some (.int .i64 x) := (cell_block (HG.out.block b hlt (by simp; omega)) _).trans hw0
      have hxw := HLW.out x (hx ▸ List.getElem_mem hjL)
      have hnt : ¬ x ∈ L.take j := hx ▸ take_not HLN.out j hjL
      obtain ⟨w8, run8, m8, g8⟩ := HM.out.put (by rw [List.length_take]; omega) x hxw hnt
      rw [show ((L.take j).length : Int) = (j : Int) by rw [List.length_take]; omega] at run8
      have htk : L.take (j + 1) = L.take j ++ [x] := by rw [← hx]; exact (List.take_append_getElem hjL).symm
      rw [← htk] at m8
      have N := Lib.hid (And.intro m8 (grown_trans HG.out g8))
      clear m8 g8 htk hnt hxw hw0 hc hx hjL
      go_wp2_with fail
      go_roundw
      case rel => exact ⟨j + 1, by omega, by go_num, N.out.1, N.out.2⟩
      case measure => simp [intOf]; omega
    · obtain rfl : j = q := by omega
      have hm' : MapP L (w.heap.size + 1 + 1) wr := by
        have h := HM.out
        rw [← HQ.out, List.take_length] at h
        exact h
      have hbw : Below w.heap.size w wr := by
        have h1 := HB4.out.trans (HB46.out.mono (by omega))
        exact h1.trans ((Below.refl _ _).grown HG.out (by omega) (fun k e => by cases e; omega))
      have e0 := (cell_block (KP.out w.heap.size (by omega) (by omega)) 0).trans c0
      have e1 := (cell_block (KP.out w.heap.size (by omega) (by omega)) 1).trans c1
      have e2 := (cell_block (KP.out w.heap.size (by omega) (by omega)) 2).trans c2
      have hb3 : Boxed wr (w.heap.size + 1 + 1 + 1) 83 (.map (some (w.heap.size + 1 + 1))) := (KP.out _ (by omega) (by omega)).trans H3.out
      have hc := change_any (idx L) 48 #[.pointer (some ⟨w.heap.size + 1 + 1 + 1, 0, none⟩)] (enters_of Tryd.func48 (by kernel_rfl) rfl) wr k n (u1, u2, u3) F (HF.out.keep hbw.size fun b off hlt => hbw.cell (p := ⟨b, off, none⟩) hlt) (by omega) (fun m W hb => canon1_any ((hb.block _ (by omega)).trans hb3) (hm'.of_block (hb.block _ (by omega))) HLW.out m)
      have HC := Lib.hid hc
      have HBW := Lib.hid hbw
      have hsw := hbw.size
      clear hc hb3 hm' hbw
      dsimp only [tyVal, slv] at HC
      go_wp2_with fail
      refine HC.out.mono ?_
      rintro e w7 ⟨u', rfl, hb7, hf⟩
      obtain ⟨r0, r1, r2, z0, z1, z2, w8, hw8, hld, hsz, hfar, hbl⟩ := ret_cells (w := w7) (w.heap.size + 1) k (nm (idx L) k n) u' ((hb7.block _ (by omega)).trans ((KP.out _ (by omega) (by omega)).trans H1.out))
      have HL := Lib.hid hld
      have HFS := Lib.hid hf
      have HFR := Lib.hid hfar
      have hs7 := hb7.size
      have HB8 := Lib.hid ((HBW.out.trans (hb7.mono (by omega))).trans (hbl.mono (by omega)))
      obtain ⟨u1', u2', u3'⟩ := u'
      dsimp only [tyVal, slv] at hw8 ⊢
      clear hld hf hfar hb7 hbl
      go_wp2_with fail
      refine bodyPost_ret (results_box rfl _ _ _ _ rfl HL.out) rfl ?_
      exact ⟨(u1', u2', u3'), rfl, HB8.out, FreshT.mono (HFS.out.to (by omega) fun b cs hb hc => (HFR.out b (by omega)).trans hc) (by omega)⟩
end Go.Proofs.YtagdpohgicihnaaDoor
