/- Texts of one proof, one behind the other. -/
import Derived.Test.YtbdckmnppeglfaaMgGraphAdds31
import Derived.Test.YtbdckmnppeglfaaMgGraphAdds9
import Derived.Test.YtbdckmnppeglfaaMgGraphAdds19
import Derived.Laws.MakeOwn
/- graph's lay. -/
namespace Go.Proofs.Ytbdckmnppeglfaa
open Go.RowKit Go.Shelf
attribute [local go_sem ↓] builtin_app
set_option maxRecDepth 100000
theorem lset3 {w : World} (b off : Nat) (a0 a1 a2 : Value) {y0 y1 y2 : Value} (h0 : w.cell? ⟨b, off, none⟩ = some y0) (h1 : w.cell? ⟨b, off + 1, none⟩ = some y1) (h2 : w.cell? ⟨b, off + 2, none⟩ = some y2) :
    (((w.setCell ⟨b, off, none⟩ a0).setCell ⟨b, off + 1, none⟩ a1).setCell ⟨b, off + 2, none⟩ a2).cell? ⟨b, off, none⟩ = some a0 ∧ (((w.setCell ⟨b, off, none⟩ a0).setCell ⟨b, off + 1, none⟩ a1).setCell ⟨b, off + 2, none⟩ a2).cell? ⟨b, off + 1, none⟩ = some a1 ∧ (((w.setCell ⟨b, off, none⟩ a0).setCell ⟨b, off + 1, none⟩ a1).setCell ⟨b, off + 2, none⟩ a2).cell? ⟨b, off + 2, none⟩ = some a2 := by
  refine ⟨?_, ?_, ?_⟩
  · rw [World.cell?_setCell_other _ _ _ _ (by intro e; injection e with _ e; omega), World.cell?_setCell_other _ _ _ _ (by intro e; injection e with _ e; omega), World.cell?_setCell_same _ _ _ h0]
  · rw [World.cell?_setCell_other _ _ _ _ (by intro e; injection e with _ e; omega)]
    exact World.cell?_setCell_same _ _ _ ((World.cell?_setCell_other _ _ _ _ (by intro e; injection e with _ e; omega)).trans h1)
  · exact World.cell?_setCell_same _ _ _ ((World.cell?_setCell_other _ _ _ _ (by intro e; injection e with _ e; omega)).trans ((World.cell?_setCell_other _ _ _ _ (by intro e; injection e with _ e; omega)).trans h2))
set_option maxHeartbeats 8000000 in
theorem lay_graph (w : World) (B g mb : Nat) (v : Value) (L : List Nd) (R : List Rn) (hG : GrM B w g v mb L (R.map rG)) (hRI : RI R) (i : Nat) (y : Rn) (hy : R[i]? = some y) (hs : y.2.2.2.1.size ≤ 100000) :
    Calls Try.prog 58 #[.pointer (some ⟨g, 0, none⟩), .int .i64 (i : Nat)] w fun e w' => ∃ (u : Sl), e = .returned (tyVal y.1 y.2.1 (slv u)) ∧ FreshT 38 w.heap.size w' idn y.2.2.2.1 u ∧ Below w.heap.size w w' := by
  obtain ⟨yk, yn, yu, yps, yP⟩ := y
  dsimp only at hs ⊢
  obtain ⟨w3, hw3⟩ : ∃ w3, ((w.alloc (.cells #[.int .i64 0, .int .i64 0, .slice none 0 0] 38)).alloc (.cells #[.int .i64 0, .int .i64 0, .slice none 0 0] 38)).alloc (.cells #[.pointer (some ⟨w.heap.size + 1, 0, none⟩), .int .i64 (i : Nat)] 131) = w3 := ⟨_, rfl⟩
  have hinv : LyInv R w w.heap.size (w.heap.size + 1) yk yn yps (.slice (some ⟨w.heap.size + 1 + 1, 0, none⟩) 1 1) w3 (1 + yps.size) := by
    have hb : Below w.heap.size w w3 := by rw [← hw3]; exact (((Below.refl _ w).alloc (Nat.le_refl _) _).alloc (by simp) _).alloc (by simp only [World.size_alloc]; omega) _
    have h0 : w3.heap[w.heap.size]? = some (.cells #[.int .i64 0, .int .i64 0, .slice none 0 0] 38) := by
      rw [← hw3]
      exact (Below.heap_alloc _ _ _ (by simp only [World.size_alloc]; omega)).trans ((Below.heap_alloc _ _ _ (by simp)).trans (heap_alloc_new w _))
    have h1 : w3.heap[w.heap.size + 1]? = some (.cells #[.int .i64 0, .int .i64 0, .slice none 0 0] 38) := by
      rw [← hw3]
      refine (Below.heap_alloc _ _ _ (by simp only [World.size_alloc]; omega)).trans ?_
      have := heap_alloc_new (w.alloc (.cells #[.int .i64 0, .int .i64 0, .slice none 0 0] 38)) (.cells #[.int .i64 0, .int .i64 0, .slice none 0 0] 38)
      rwa [World.size_alloc] at this
    refine ⟨[(⟨w.heap.size + 1, 0, yk, yn, yu, yps⟩, i)], by simp [left_], by omega, ?_, ?_, List.pairwise_singleton _ _, ?_, hb, h0, Nat.le_refl _, ⟨by omega, _, h1⟩⟩
    · have := own_full ((w.alloc (.cells #[.int .i64 0, .int .i64 0, .slice none 0 0] 38)).alloc (.cells #[.int .i64 0, .int .i64 0, .slice none 0 0] 38)) w.heap.size (by simp only [World.size_alloc]; omega) 131 2 1 [.pointer (some ⟨w.heap.size + 1, 0, none⟩), .int .i64 (i : Nat)] rfl (by unfold maxLen; omega)
      simp only [World.size_alloc] at this
      rw [← hw3]
      simpa [plC] using this
    · intro x hx
      obtain rfl : x = (⟨w.heap.size + 1, 0, yk, yn, yu, yps⟩, i) := by simpa using hx
      exact ⟨by simp only; omega, ⟨by simp only; omega, _, h1⟩, ⟨_, _, _, cell_of_row w3 _ 0 _ _ (0, 0) h1, cell_of_row w3 _ 1 _ _ (0, 0) h1, cell_of_row w3 _ 2 _ _ (0, 0) h1⟩, _, hy, rfl, rfl, rfl⟩
    · intro W hsz hd _
      exact hd _ (List.mem_singleton.2 rfl)
  have HI := Lib.hid hinv
  have HG := Lib.hid hG
  have HRI := Lib.hid hRI
  have HW3 := Lib.hid hw3
  have hRl := hG.nodes.len
  rw [List.length_map] at hRl
  have HRL := Lib.hid hRl
  clear hinv hG hRI hw3 hy hRl
  go_enter Try.func58, Try.ntmps58
  go_wp2_with fail
  go_loopw [6] (fun t6 wr => ∃ s, LyInv R w w.heap.size (w.heap.size + 1) yk yn yps t6 wr s) (fun t6 wr => least (LyInv R w w.heap.size (w.heap.size + 1) yk yn yps t6 wr))
  case atStart => exact ⟨_, by rw [HW3.out]; exact HI.out⟩
  case round =>
    obtain ⟨s, hs⟩ := hrel
    obtain ⟨⟨Hs, hsum, hsm, hown, hat, hap, hwd, hb, hrt, hrt2, hrb⟩, _⟩ := least_of hs
    have HM := Lib.hid hsum
    clear hs hsum
    rcases List.eq_nil_or_concat Hs with rfl | ⟨Hq, ⟨h, ix⟩, rfl⟩
    rotate_left
    · rw [List.concat_eq_append] at *
      rw [List.length_append, List.length_singleton] at hown
      obtain ⟨a, cp, rfl, hg1, hg2⟩ := own_shape hown (by omega)
      obtain ⟨hbB, hT, ⟨y0, y1, y2, d0, d1, d2⟩, y, hy, hyn⟩ := hat (h, ix) (List.mem_append_right _ (List.mem_singleton.2 rfl))
      obtain ⟨q, hq⟩ : ∃ q, Hq.length = q := ⟨_, rfl⟩
      obtain ⟨hl0, hl1⟩ := plC_last Hq (h, ix)
      have own1 : wr.ownsRow w.heap.size 131 2 (.slice (some ⟨a, 0, none⟩) q cp) q (Hq.flatMap plC) := by
        rw [List.flatMap_append, hq] at hown
        exact own_cut hown q (by omega) (by rw [plC_len, hq])
      have e0 : wr.cell? ⟨a, q * 2, none⟩ = some (.pointer (some ⟨h.b, h.off, none⟩)) := by rw [hown.cellAt _ (by rw [hq]; omega), ← hq]; exact hl0
      have e1 : wr.cell? ⟨a, q * 2 + 1, none⟩ = some (.int .i64 (ix : Nat)) := by rw [hown.cellAt _ (by rw [hq]; omega), ← hq]; exact hl1
      rw [hq] at hown ⊢
      have hql : q ≤ 1000000 := by have := left_len ((Hq ++ [(h, ix)]).map (·.1)); rw [List.length_map, List.length_append] at this; have := HM.out; omega
      have hcp : q + 1 ≤ cp := by
        obtain ⟨_, _, hv, h1, _⟩ := own_form hown
        injection hv with _ _ h3
        omega
      have hz : decide ((q : Int) ≤ (cp : Int)) = true := by simp; omega
      have hz0 : (0 : Int) ≤ (q : Int) := by omega
      -- the node
      have hGr := HG.out
      have hix : ix < R.length := (List.getElem?_eq_some_iff.1 hy).1
      have hixL : ix < L.length := by have := HRL.out; omega
      have hRx : (R.map rG)[ix]'(by simpa using hix) = rG y := by
        have h1 := (List.getElem?_eq_some_iff.1 hy).2
        simp [h1]
      have hnd := hGr.nodes.at ix hixL (by simpa using hix)
      rw [hRx] at hnd
      obtain ⟨z0, z1, z2, z3⟩ := ndC_at L ix hixL
      obtain ⟨na, nc, rfl, _, hnl⟩ := own_shape hGr.row (by omega)
      have hgl := hGr.lt.1
      have g0 : wr.cell? ⟨g, 0, none⟩ = some (.slice (some ⟨na, 0, none⟩) L.length nc) := (hb.cell (p := ⟨g, 0, none⟩) hgl).trans (cell_of_row w _ 0 _ _ (0, 0) hGr.cell)
      have k0 : wr.cell? ⟨na, ix * 4, none⟩ = some (.int .i64 L[ix].1) := (hb.cell (p := ⟨na, ix * 4, none⟩) hnl).trans (by rw [hGr.row.cellAt _ (by omega)]; exact z0)
      have k1 : wr.cell? ⟨na, ix * 4 + 1, none⟩ = some (.int .i64 L[ix].2.1) := (hb.cell (p := ⟨na, ix * 4 + 1, none⟩) hnl).trans (by rw [hGr.row.cellAt _ (by omega)]; exact z1)
      have k2 : wr.cell? ⟨na, ix * 4 + 2, none⟩ = some (.int .i64 L[ix].2.2.1) := (hb.cell (p := ⟨na, ix * 4 + 2, none⟩) hnl).trans (by rw [hGr.row.cellAt _ (by omega)]; exact z2)
      have k3 : wr.cell? ⟨na, ix * 4 + 3, none⟩ = some (slv L[ix].2.2.2) := (hb.cell (p := ⟨na, ix * 4 + 3, none⟩) hnl).trans (by rw [hGr.row.cellAt _ (by omega)]; exact z3)
      obtain ⟨xd, hxd⟩ : ∃ xd, L[ix] = xd := ⟨_, rfl⟩
      rw [hxd] at k0 k1 k2 k3 hnd
      obtain ⟨xk, xn, xs, ⟨p1, p2, p3⟩⟩ := xd
      obtain ⟨n1, n2, n3, n4⟩ := hnd
      dsimp only [slv, rG] at n1 n2 n3 n4 k0 k1 k2 k3
      have hp2 : p2 = y.2.2.2.2.length := by
        obtain ⟨_, _, hv, _, _⟩ := own_form n4
        injection hv
      have hrl := HRI.out ix y hy
      have hyl : y.2.2.2.1.len = h.ps.len := by rw [← Fo.pure_len, hyn.2.2, Fo.pure_len]
      obtain ⟨m, hm⟩ : ∃ m, h.ps.len = m := ⟨_, rfl⟩
      have hpm : p2 = m := by rw [hp2, hrl.1, hyl, hm]
      rw [n1, hyn.1] at k0
      rw [n2, hyn.2.1] at k1
      dsimp only at k0 k1
      subst hpm
      have hfz : ∀ off, wr.frozen? ⟨h.b, off, none⟩ = false := fun off => by
        obtain ⟨_, cs, hcs⟩ := hT
        exact frozen_cells hcs off
      have hah : a ≠ h.b := by
        rintro rfl
        obtain ⟨_, cs, hcs⟩ := hT
        exact row_not own1 (by decide) _ rfl cs hcs
      have hlt := hT.lt
      have HS := Lib.hid (And.intro hat (And.intro hap (And.intro hwd (And.intro hb (And.intro hrt (And.intro hrt2 hrb))))))
      have HNE := Lib.hid (And.intro hy hyn)
      have HRW := Lib.hid (And.intro own1 hq)
      have HT := Lib.hid (And.intro hbB hT)
      have HN4 := Lib.hid (And.intro n4 hrl)
      have HMM := Lib.hid hm
      have HFZ := Lib.hid hfz
      have HDD := Lib.hid (And.intro d0 (And.intro d1 d2))
      clear hat hap hwd hb hrt hrb hy hyn own1 hq hT n4 hrl hm hown hl0 hl1 z0 z1 z2 z3 hxd n1 n2 n3 hyl hp2 hfz hGr hRx hg1 hg2 d0 d1 d2
      obtain ⟨hB_, hO, hk_, hn_, hu_, hps_⟩ := h
      dsimp only at *
      generalize wr = wo at *
      have ex : ∀ W, LS wo W → W.cell? ⟨a, q * 2, none⟩ = some (.pointer (some ⟨hB_, hO, none⟩)) ∧ W.cell? ⟨a, q * 2 + 1, none⟩ = some (.int .i64 (ix : Nat)) ∧ W.cell? ⟨g, 0, none⟩ = some (.slice (some ⟨na, 0, none⟩) L.length nc) ∧ W.cell? ⟨na, ix * 4, none⟩ = some (.int .i64 hk_) ∧ W.cell? ⟨na, ix * 4 + 1, none⟩ = some (.int .i64 hn_) ∧ W.cell? ⟨na, ix * 4 + 2, none⟩ = some (.int .i64 xs) ∧ W.cell? ⟨na, ix * 4 + 3, none⟩ = some (.slice p1 p2 p3) := fun W hW => by
        have ha := HRW.out.1.lt a rfl
        have hbz := HS.out.2.2.2.1.size
        exact ⟨(Below.cell hW (p := ⟨a, q * 2, none⟩) (by simp only; omega)).trans e0, (Below.cell hW (p := ⟨a, q * 2 + 1, none⟩) (by simp only; omega)).trans e1, (Below.cell hW (p := ⟨g, 0, none⟩) (by simp only; omega)).trans g0, (Below.cell hW (p := ⟨na, ix * 4, none⟩) (by simp only; omega)).trans k0, (Below.cell hW (p := ⟨na, ix * 4 + 1, none⟩) (by simp only; omega)).trans k1, (Below.cell hW (p := ⟨na, ix * 4 + 2, none⟩) (by simp only; omega)).trans k2, (Below.cell hW (p := ⟨na, ix * 4 + 3, none⟩) (by simp only; omega)).trans k3⟩
      have EX := Lib.hid ex
      clear ex
      go_wp2_with fail
      refine wp_region_held (S := LS wo) (by kernel_rfl) ?_
      change wpAnyH _ _ _ _ _ 19 (List.replicate 19 false).toArray _ wo.drew
      have HLD := Lib.hid (show LS wo wo.drew from (Below.refl _ _).drew)
      simp only [List.replicate_succ, List.replicate_zero]
      refine any_take (i := 0) (some 21) (.slice (some ⟨a, 0, none⟩) (q + 1) cp) rfl (by rfl) (by kernel_rfl) (by kernel_rfl) (by kernel_rfl) (fun _ _ _ h => h) (Or.inl ⟨by kernel_rfl, (fun w hw => by clear hw; go_simp)⟩) HLD.out ?_
      simp only [Act.put, List.setIfInBounds_toArray, List.set_cons_zero, List.set_cons_succ]
      refine any_take (i := 1) (some 22) (.int .i64 (q : Nat)) rfl (by rfl) (by kernel_rfl) (by kernel_rfl) (by kernel_rfl) (fun _ _ _ h => h) (Or.inl ⟨by kernel_rfl, (fun w hw => by clear hw; go_simp)⟩) HLD.out ?_
      simp only [Act.put, List.setIfInBounds_toArray, List.set_cons_zero, List.set_cons_succ]
      refine any_take (i := 2) (some 23) (.pointer (some ⟨a, q * 2, none⟩)) rfl (by rfl) (by kernel_rfl) (by kernel_rfl) (by kernel_rfl) (fun _ _ _ h => h) (Or.inl ⟨by kernel_rfl, (fun w hw => by clear hw; go_simp; intro h9; omega)⟩) HLD.out ?_
      simp only [Act.put, List.setIfInBounds_toArray, List.set_cons_zero, List.set_cons_succ]
      refine any_take (i := 3) (some 24) (.pointer (some ⟨a, q * 2, none⟩)) rfl (by rfl) (by kernel_rfl) (by kernel_rfl) (by kernel_rfl) (fun _ _ _ h => h) (Or.inl ⟨by kernel_rfl, (fun w hw => by clear hw; go_simp)⟩) HLD.out ?_
      simp only [Act.put, List.setIfInBounds_toArray, List.set_cons_zero, List.set_cons_succ]
      refine any_take (i := 4) (some 25) (.pointer (some ⟨hB_, hO, none⟩)) rfl (by rfl) (by kernel_rfl) (by kernel_rfl) (by kernel_rfl) (fun _ _ _ h => h) (Or.inl ⟨by kernel_rfl, (fun w hw => by obtain ⟨m0, m1, m2, m3, m4, m5, m6⟩ := EX.out w hw; clear hw; go_simp)⟩) HLD.out ?_
      simp only [Act.put, List.setIfInBounds_toArray, List.set_cons_zero, List.set_cons_succ]
      refine any_take (i := 5) (some 26) (.pointer (some ⟨g, 0, none⟩)) rfl (by rfl) (by kernel_rfl) (by kernel_rfl) (by kernel_rfl) (fun _ _ _ h => h) (Or.inl ⟨by kernel_rfl, (fun w hw => by clear hw; go_simp)⟩) HLD.out ?_
      simp only [Act.put, List.setIfInBounds_toArray, List.set_cons_zero, List.set_cons_succ]
      refine any_take (i := 6) (some 27) (.pointer (some ⟨g, 0, none⟩)) rfl (by rfl) (by kernel_rfl) (by kernel_rfl) (by kernel_rfl) (fun _ _ _ h => h) (Or.inl ⟨by kernel_rfl, (fun w hw => by clear hw; go_simp)⟩) HLD.out ?_
      simp only [Act.put, List.setIfInBounds_toArray, List.set_cons_zero, List.set_cons_succ]
      refine any_take (i := 7) (some 28) (.pointer (some ⟨g, 0, none⟩)) rfl (by rfl) (by kernel_rfl) (by kernel_rfl) (by kernel_rfl) (fun _ _ _ h => h) (Or.inl ⟨by kernel_rfl, (fun w hw => by clear hw; go_simp)⟩) HLD.out ?_
      simp only [Act.put, List.setIfInBounds_toArray, List.set_cons_zero, List.set_cons_succ]
      refine any_take (i := 8) (some 29) (.slice (some ⟨na, 0, none⟩) L.length nc) rfl (by rfl) (by kernel_rfl) (by kernel_rfl) (by kernel_rfl) (fun _ _ _ h => h) (Or.inl ⟨by kernel_rfl, (fun w hw => by obtain ⟨m0, m1, m2, m3, m4, m5, m6⟩ := EX.out w hw; clear hw; go_simp)⟩) HLD.out ?_
      simp only [Act.put, List.setIfInBounds_toArray, List.set_cons_zero, List.set_cons_succ]
      refine any_take (i := 9) (some 30) (.slice (some ⟨a, 0, none⟩) (q + 1) cp) rfl (by rfl) (by kernel_rfl) (by kernel_rfl) (by kernel_rfl) (fun _ _ _ h => h) (Or.inl ⟨by kernel_rfl, (fun w hw => by clear hw; go_simp)⟩) HLD.out ?_
      simp only [Act.put, List.setIfInBounds_toArray, List.set_cons_zero, List.set_cons_succ]
      refine any_take (i := 10) (some 31) (.int .i64 (q : Nat)) rfl (by rfl) (by kernel_rfl) (by kernel_rfl) (by kernel_rfl) (fun _ _ _ h => h) (Or.inl ⟨by kernel_rfl, (fun w hw => by clear hw; go_simp)⟩) HLD.out ?_
      simp only [Act.put, List.setIfInBounds_toArray, List.set_cons_zero, List.set_cons_succ]
      refine any_take (i := 11) (some 32) (.pointer (some ⟨a, q * 2, none⟩)) rfl (by rfl) (by kernel_rfl) (by kernel_rfl) (by kernel_rfl) (fun _ _ _ h => h) (Or.inl ⟨by kernel_rfl, (fun w hw => by clear hw; go_simp; intro h9; omega)⟩) HLD.out ?_
      simp only [Act.put, List.setIfInBounds_toArray, List.set_cons_zero, List.set_cons_succ]
      refine any_take (i := 12) (some 33) (.pointer (some ⟨a, q * 2 + 1, none⟩)) rfl (by rfl) (by kernel_rfl) (by kernel_rfl) (by kernel_rfl) (fun _ _ _ h => h) (Or.inl ⟨by kernel_rfl, (fun w hw => by clear hw; go_simp)⟩) HLD.out ?_
      simp only [Act.put, List.setIfInBounds_toArray, List.set_cons_zero, List.set_cons_succ]
      refine any_take (i := 13) (some 34) (.int .i64 (ix : Nat)) rfl (by rfl) (by kernel_rfl) (by kernel_rfl) (by kernel_rfl) (fun _ _ _ h => h) (Or.inl ⟨by kernel_rfl, (fun w hw => by obtain ⟨m0, m1, m2, m3, m4, m5, m6⟩ := EX.out w hw; clear hw; go_simp)⟩) HLD.out ?_
      simp only [Act.put, List.setIfInBounds_toArray, List.set_cons_zero, List.set_cons_succ]
      refine any_take (i := 14) (some 35) (.pointer (some ⟨na, ix * 4, none⟩)) rfl (by rfl) (by kernel_rfl) (by kernel_rfl) (by kernel_rfl) (fun _ _ _ h => h) (Or.inl ⟨by kernel_rfl, (fun w hw => by clear hw; go_simp)⟩) HLD.out ?_
      simp only [Act.put, List.setIfInBounds_toArray, List.set_cons_zero, List.set_cons_succ]
      refine any_take (i := 15) (some 36) (.agg #[.int .i64 hk_, .int .i64 hn_, .int .i64 xs, .slice p1 p2 p3]) rfl (by rfl) (by kernel_rfl) (by kernel_rfl) (by kernel_rfl) (fun _ _ _ h => h) (Or.inl ⟨by kernel_rfl, (fun w hw => by obtain ⟨m0, m1, m2, m3, m4, m5, m6⟩ := EX.out w hw; clear hw; go_simp)⟩) HLD.out ?_
      simp only [Act.put, List.setIfInBounds_toArray, List.set_cons_zero, List.set_cons_succ]
      refine wpAnyH_all (rs := [16]) (by kernel_rfl) (by simp) fun q9 hq9 => ?_
      obtain rfl : q9 = 16 := by simpa using hq9
      refine ops_val (d := some 9) (v := .pointer (some ⟨wo.heap.size, 0, none⟩)) (w' := wo.drew.alloc (.cells #[.int .i64 0, .int .i64 0, .int .i64 0, .slice none 0 0] 92)) rfl (by rfl) (by kernel_rfl) (by go_simp) (HLD.out.alloc HLD.out.size _) ?_
      simp only [Act.put, List.setIfInBounds_toArray, List.set_cons_zero, List.set_cons_succ]
      refine wpAnyH_all (rs := [17]) (by kernel_rfl) (by simp) fun q9 hq9 => ?_
      obtain rfl : q9 = 17 := by simpa using hq9
      refine ops_val (d := some 8) (v := .pointer (some ⟨hB_, hO, none⟩)) (w' := wo.drew.alloc (.cells #[.int .i64 0, .int .i64 0, .int .i64 0, .slice none 0 0] 92)) rfl (by rfl) (by kernel_rfl) (by go_simp) (HLD.out.alloc HLD.out.size _) ?_
      simp only [Act.put, List.setIfInBounds_toArray, List.set_cons_zero, List.set_cons_succ]
      refine wpAnyH_all (rs := [18]) (by kernel_rfl) (by simp) fun q9 hq9 => ?_
      obtain rfl : q9 = 18 := by simpa using hq9
      refine ops_skip (w' := wo.drew.alloc (.cells #[.int .i64 hk_, .int .i64 hn_, .int .i64 xs, .slice p1 p2 p3] 92)) rfl (by kernel_rfl) (by go_simp) (HLD.out.alloc HLD.out.size _) rfl ?_
      refine wpAnyH_done (by kernel_rfl) ?_ _
      obtain ⟨w1, hw1⟩ : ∃ w1, wo.drew.alloc (.cells #[.int .i64 hk_, .int .i64 hn_, .int .i64 xs, .slice p1 p2 p3] 92) = w1 := ⟨_, rfl⟩
      rw [hw1]
      have hbz := HS.out.2.2.2.1.size
      have k1 : KeepT 38 wo w1 := by rw [← hw1]; exact KeepT.alloc (b := wo.drew) ⟨Nat.le_refl _, fun _ _ h => h⟩ _
      have b1 : Below w.heap.size wo w1 := by rw [← hw1]; exact ((Below.refl _ _).drew).alloc hbz _
      have hn1 : w1.heap[wo.heap.size]? = some (.cells #[.int .i64 hk_, .int .i64 hn_, .int .i64 xs, .slice p1 p2 p3] 92) := by rw [← hw1]; exact heap_alloc_new _ _
      have hT0 := HT.out.2
      have hT1 := k1.isT hT0
      have x0 : w1.cell? ⟨hB_, hO, none⟩ = some y0 := (k1.cell hT0 _).trans HDD.out.1
      have x1 : w1.cell? ⟨hB_, hO + 1, none⟩ = some y1 := (k1.cell hT0 _).trans HDD.out.2.1
      have x2 : w1.cell? ⟨hB_, hO + 2, none⟩ = some y2 := (k1.cell hT0 _).trans HDD.out.2.2
      obtain ⟨l0, l1, l2⟩ := lset3 (w := w1) hB_ hO (.int .i64 hk_) (.int .i64 hn_) (.slice none 0 0) x0 x1 x2
      have fz : ∀ off, w1.frozen? ⟨hB_, off, none⟩ = false := fun off => by obtain ⟨_, cs, hcs⟩ := hT1; exact frozen_cells hcs off
      have fz0 := fz hO
      have fz1 := fz (hO + 1)
      have fz2 := fz (hO + 2)
      have v0 : w1.cell? ⟨wo.heap.size, 0, none⟩ = some (.int .i64 hk_) := cell_of_row w1 _ 0 _ _ (0, 0) hn1
      have v1 : w1.cell? ⟨wo.heap.size, 1, none⟩ = some (.int .i64 hn_) := cell_of_row w1 _ 1 _ _ (0, 0) hn1
      have hne9 : hB_ ≠ wo.heap.size := by omega
      have tch2 : Tch 38 w.heap.size w.heap.size ⟨hB_, hO, hk_, hn_, hu_, hps_⟩ wo (((w1.setCell ⟨hB_, hO, none⟩ (.int .i64 hk_)).setCell ⟨hB_, hO + 1, none⟩ (.int .i64 hn_)).setCell ⟨hB_, hO + 2, none⟩ (.slice none 0 0)) := by
        have t1 : Tch 38 w.heap.size w.heap.size ⟨hB_, hO, hk_, hn_, hu_, hps_⟩ wo w1 := Tch.keep k1 b1
        have t2 := t1.trans (Tch.set (h := ⟨hB_, hO, hk_, hn_, hu_, hps_⟩) 0 (by omega) (t1.kept _ hT0) HT.out.1 (.int .i64 hk_))
        have t3 := t2.trans (Tch.set (h := ⟨hB_, hO, hk_, hn_, hu_, hps_⟩) 1 (by omega) (t2.kept _ hT0) HT.out.1 (.int .i64 hn_))
        exact t3.trans (Tch.set (h := ⟨hB_, hO, hk_, hn_, hu_, hps_⟩) 2 (by omega) (t3.kept _ hT0) HT.out.1 (.slice none 0 0))
      have own2 : (((w1.setCell ⟨hB_, hO, none⟩ (.int .i64 hk_)).setCell ⟨hB_, hO + 1, none⟩ (.int .i64 hn_)).setCell ⟨hB_, hO + 2, none⟩ (.slice none 0 0)).ownsRow w.heap.size 131 2 (.slice (some ⟨a, 0, none⟩) q cp) q (Hq.flatMap plC) := by
        have o1 : w1.ownsRow w.heap.size 131 2 (.slice (some ⟨a, 0, none⟩) q cp) q (Hq.flatMap plC) := by
          rw [← hw1]; exact World.ownsRow.alloc (w := wo.drew) HRW.out.1 _
        have hTT : ∀ (W : World), (∃ cs, W.heap[hB_]? = some (Obj.cells cs 38)) → ∀ off v, ∃ cs, (W.setCell ⟨hB_, off, none⟩ v).heap[hB_]? = some (Obj.cells cs 38) := fun W ⟨cs, h⟩ off v => ⟨_, heap_setCell_same W _ _ _ _ _ h⟩
        have e1 := own_touch (h := ⟨hB_, hO, hk_, hn_, hu_, hps_⟩) o1 hT1.2 (by decide) hO (.int .i64 hk_)
        have e2 := own_touch (h := ⟨hB_, hO, hk_, hn_, hu_, hps_⟩) e1 (hTT _ hT1.2 _ _) (by decide) (hO + 1) (.int .i64 hn_)
        exact own_touch (h := ⟨hB_, hO, hk_, hn_, hu_, hps_⟩) e2 (hTT _ (hTT _ hT1.2 _ _) _ _) (by decide) (hO + 2) (.slice none 0 0)
      obtain ⟨w2, hw2⟩ : ∃ w2, ((w1.setCell ⟨hB_, hO, none⟩ (.int .i64 hk_)).setCell ⟨hB_, hO + 1, none⟩ (.int .i64 hn_)).setCell ⟨hB_, hO + 2, none⟩ (.slice none 0 0) = w2 := ⟨_, rfl⟩
      have hn2 : w2.heap[wo.heap.size]? = some (.cells #[.int .i64 hk_, .int .i64 hn_, .int .i64 xs, .slice p1 p2 p3] 92) := by
        rw [← hw2, Below.heap_setCell _ _ _ _ hne9.symm, Below.heap_setCell _ _ _ _ hne9.symm, Below.heap_setCell _ _ _ _ hne9.symm]; exact hn1
      have v3 : w2.cell? ⟨wo.heap.size, 3, none⟩ = some (.slice p1 p2 p3) := cell_of_row w2 _ 3 _ _ (0, 0) hn2
      have v3' : w1.cell? ⟨wo.heap.size, 3, none⟩ = some (.slice p1 p2 p3) := cell_of_row w1 _ 3 _ _ (0, 0) hn1
      rw [hw2] at l0 l1 l2 tch2 own2
      have hp2 : p2 ≤ 1000000 := by have := hps_.len_le_size; have h2 := HMM.out; have h3 := HM.out; rw [List.map_append, left_app] at h3; simp only [left_, List.map_cons, List.map_nil, List.sum_cons, List.sum_nil] at h3; omega
      have HT2 := Lib.hid (And.intro tch2 (And.intro own2 (And.intro l0 l1)))
      have HN2 := Lib.hid hn2
      have HW2 := Lib.hid hw2
      have hs2 : wo.heap.size ≤ w2.heap.size := tch2.below.size
      clear hw1 k1 b1 hn1 hT0 hT1 l0 l1 fz tch2 own2 hn2 e0 e1 k0 k2 k3 g0
      rcases Nat.eq_zero_or_pos p2 with hp0 | hp0
      · subst hp0
        obtain ⟨w4, hw4⟩ : ∃ w4, w4 = w2 := ⟨_, rfl⟩
        subst hw4
        have HF := Lib.hid (show Tch 38 w.heap.size w.heap.size ⟨hB_, hO, hk_, hn_, hu_, hps_⟩ wo w4 ∧ w4.ownsRow w.heap.size 131 2 (.slice (some ⟨a, 0, none⟩) q cp) q (Hq.flatMap plC) ∧ w4.cell? ⟨hB_, hO, none⟩ = some (.int .i64 hk_) ∧ w4.cell? ⟨hB_, hO + 1, none⟩ = some (.int .i64 hn_) ∧ w4.cell? ⟨hB_, hO + 2, none⟩ = some (slv (none, 0, 0)) ∧
          ((hps_.len = 0 ∧ ∃ A cp, ((none, 0, 0) : Sl) = (A, 0, cp)) ∨ (0 < hps_.len ∧ (∃ cs, w4.heap[wo.heap.size]? = some (Obj.cells cs 38)) ∧ (∀ j, j < hps_.len * 3 → ∃ z, w4.cell? ⟨wo.heap.size, j, none⟩ = some z) ∧ ∃ cp, ((none, 0, 0) : Sl) = (some ⟨wo.heap.size, 0, none⟩, hps_.len, cp) ∧ hps_.len ≤ cp ∧ cp ≤ maxLen))
          from ⟨HT2.out.1, HT2.out.2.1, HT2.out.2.2.1, HT2.out.2.2.2, l2, .inl ⟨HMM.out, none, 0, rfl⟩⟩)
        obtain ⟨cc, hcc⟩ : ∃ cc, cc = wo.heap.size := ⟨_, rfl⟩
        rw [← hcc] at HF
        have HCC := Lib.hid (show wo.heap.size ≤ cc by omega)
        clear hcc
        go_wp2_with fail
        go_loopw [6, 61] (fun t6 t61 WW => ∃ j : Nat, j ≤ 0 ∧ t61 = .int .i64 j ∧ WW.ownsRow w.heap.size 131 2 t6 (Hq ++ (plsOf cc hps_ y.2.2.2.2).take j).length ((Hq ++ (plsOf cc hps_ y.2.2.2.2).take j).flatMap plC) ∧ KeepT 38 w4 WW ∧ Below w.heap.size w4 WW) (fun _ t _ => 0 - (intOf t).toNat)
        case atStart => exact ⟨0, Nat.zero_le _, rfl, by rw [List.take_zero, List.append_nil, HRW.out.2]; exact HF.out.2.1, KeepT.refl _ _, Below.refl _ _⟩
        case round =>
          obtain ⟨j, hj, rfl, hown, hkt, hbw⟩ := hrel
          have HOW := Lib.hid hown
          have HKT := Lib.hid hkt
          have HBW := Lib.hid hbw
          clear hown hkt hbw
          obtain rfl : j = 0 := by omega

          have hnew : LyInv R w w.heap.size (w.heap.size + 1) yk yn yps u6 wr (left_ (Hq.map (·.1)) + hps_.size) := by
            obtain ⟨t4, _, c0, c1, c2, hu⟩ := HF.out
            obtain ⟨hat, hap, hwd, hb, hrt, hrt2, hrb⟩ := HS.out
            have hT4 := t4.kept _ HT.out.2
            refine ly_step (c := cc) (u2 := (none, 0, 0)) HRI.out hat hap hwd hb hrt hrt2 hrb (by have := HM.out; omega) HNE.out.1 HNE.out.2 (t4.trans (Tch.keep HKT.out HBW.out)) HCC.out ((HKT.out.cell hT4 _).trans c0) ((HKT.out.cell hT4 _).trans c1) ((HKT.out.cell hT4 _).trans c2) ?_ ?_
            · rcases hu with h0 | ⟨hp, ⟨cs, hcs⟩, hcc, hh⟩
              · exact .inl h0
              · exact .inr ⟨hp, ⟨cs, HKT.out.2 _ _ hcs⟩, fun j hj => by obtain ⟨z, hz⟩ := hcc j hj; exact ⟨z, (World.cell?_of_block ((HKT.out.2 _ _ hcs).trans hcs.symm)).trans hz⟩, hh⟩
            · have h1 := HOW.out
              rw [List.take_of_length_le (by unfold plsOf; rw [List.length_zip, holesOf_len, HMM.out]; omega)] at h1
              exact h1
          have HN := Lib.hid hnew
          clear hnew
          go_wp2_with fail
          go_roundw
          case rel => exact ⟨_, HN.out⟩
          case measure =>
            have h1 := HM.out
            rw [HRW.out.2, List.map_append, left_app] at h1
            simp only [left_, List.map_cons, List.map_nil, List.sum_cons, List.sum_nil] at h1
            refine Nat.lt_of_lt_of_le (Nat.lt_of_le_of_lt (least_of HN.out).2 ?_) (Nat.le_of_eq h1)
            simp only [left_]
            omega
      · have hmk := run_makeSlice (P := Try.prog) (w := w2) 22 38 (info_parts tyInfo).choose _ Try.underlying22 (info_parts tyInfo).choose_spec.1 (info_parts tyInfo).choose_spec.2.1 .i64 .i64 (p2 : Int) (p2 : Int) (by omega) (Int.le_refl _) (by rw [(info_parts tyInfo).choose_spec.2.2.1]; simp only [Int.toNat_natCast]; omega) (by rw [(info_parts tyInfo).choose_spec.2.2.2]; omega) (by omega)
        rw [(info_parts tyInfo).choose_spec.2.2.1] at hmk
        simp only [Int.toNat_natCast] at hmk
        obtain ⟨cs3, hcs3⟩ : ∃ cs3, madeCells (Value.agg #[.int .i64 0, .int .i64 0, .slice none 0 0]).cells (p2 * 3) = cs3 := ⟨_, rfl⟩
        have hcl3 : cs3.size = p2 * 3 := by rw [← hcs3]; exact size_madeCells _ _
        rw [hcs3] at hmk
        obtain ⟨w3', hw3'⟩ : ∃ w3', w2.alloc (.cells cs3 38) = w3' := ⟨_, rfl⟩
        rw [hw3'] at hmk
        have hk3 : KeepT 38 w2 w3' := by rw [← hw3']; exact (KeepT.refl _ _).alloc _
        have hz2 : w.heap.size ≤ w2.heap.size := by omega
        have hb3 : Below w.heap.size w2 w3' := by rw [← hw3']; exact (Below.refl _ _).alloc hz2 _
        have ht3 := HT2.out.1.trans (Tch.keep hk3 hb3)
        have hT3 := ht3.kept _ HT.out.2
        have a2 : w3'.cell? ⟨hB_, hO + 2, none⟩ = some (.slice none 0 0) := (hk3.cell (HT2.out.1.kept _ HT.out.2) _).trans l2
        have af : w3'.frozen? ⟨hB_, hO + 2, none⟩ = false := by obtain ⟨_, cs, hcs⟩ := hT3; exact frozen_cells hcs _
        have ht4 := ht3.trans (Tch.set (h := ⟨hB_, hO, hk_, hn_, hu_, hps_⟩) 2 (by omega) hT3 HT.out.1 (.slice (some ⟨w2.heap.size, 0, none⟩) p2 p2))
        have o3 : w3'.ownsRow w.heap.size 131 2 (.slice (some ⟨a, 0, none⟩) q cp) q (Hq.flatMap plC) := by rw [← hw3']; exact HT2.out.2.1.alloc _
        have o4 := own_touch (h := ⟨hB_, hO, hk_, hn_, hu_, hps_⟩) o3 hT3.2 (by decide) (hO + 2) (.slice (some ⟨w2.heap.size, 0, none⟩) p2 p2)
        have q0 : w3'.cell? ⟨hB_, hO, none⟩ = some (.int .i64 hk_) := (hk3.cell (HT2.out.1.kept _ HT.out.2) _).trans HT2.out.2.2.1
        have q1 : w3'.cell? ⟨hB_, hO + 1, none⟩ = some (.int .i64 hn_) := (hk3.cell (HT2.out.1.kept _ HT.out.2) _).trans HT2.out.2.2.2
        have hne2 : w2.heap.size ≠ hB_ := by omega
        have c3 : w3'.heap[w2.heap.size]? = some (.cells cs3 38) := by rw [← hw3']; exact heap_alloc_new _ _
        have n3 : w3'.heap[wo.heap.size]? = some (.cells #[.int .i64 hk_, .int .i64 hn_, .int .i64 xs, .slice p1 p2 p3] 92) := by rw [← hw3']; exact (Below.heap_alloc _ _ _ (Array.getElem?_eq_some_iff.1 HN2.out).1).trans HN2.out
        obtain ⟨w4, hw4⟩ : ∃ w4, w3'.setCell ⟨hB_, hO + 2, none⟩ (.slice (some ⟨w2.heap.size, 0, none⟩) p2 p2) = w4 := ⟨_, rfl⟩
        have v4 : w4.cell? ⟨wo.heap.size, 3, none⟩ = some (.slice p1 p2 p3) := cell_of_row w4 _ 3 _ _ (0, 0) (by rw [← hw4]; exact (Below.heap_setCell _ _ _ _ hne9.symm).trans n3)
        have HF := Lib.hid (show Tch 38 w.heap.size w.heap.size ⟨hB_, hO, hk_, hn_, hu_, hps_⟩ wo w4 ∧ w4.ownsRow w.heap.size 131 2 (.slice (some ⟨a, 0, none⟩) q cp) q (Hq.flatMap plC) ∧ w4.cell? ⟨hB_, hO, none⟩ = some (.int .i64 hk_) ∧ w4.cell? ⟨hB_, hO + 1, none⟩ = some (.int .i64 hn_) ∧ w4.cell? ⟨hB_, hO + 2, none⟩ = some (slv (some ⟨w2.heap.size, 0, none⟩, p2, p2)) ∧
          ((hps_.len = 0 ∧ ∃ A cp, ((some ⟨w2.heap.size, 0, none⟩, p2, p2) : Sl) = (A, 0, cp)) ∨ (0 < hps_.len ∧ (∃ cs, w4.heap[w2.heap.size]? = some (Obj.cells cs 38)) ∧ (∀ j, j < hps_.len * 3 → ∃ z, w4.cell? ⟨w2.heap.size, j, none⟩ = some z) ∧ ∃ cp, ((some ⟨w2.heap.size, 0, none⟩, p2, p2) : Sl) = (some ⟨w2.heap.size, 0, none⟩, hps_.len, cp) ∧ hps_.len ≤ cp ∧ cp ≤ maxLen)) from by
          rw [hw4] at ht4 o4
          refine ⟨ht4, o4, ?_, ?_, ?_, .inr ⟨by rw [HMM.out]; exact hp0, ⟨cs3, by rw [← hw4]; exact (Below.heap_setCell _ _ _ _ hne2).trans c3⟩, fun j hj => ?_, p2, by rw [HMM.out], by rw [HMM.out]; omega, by unfold maxLen; omega⟩⟩
          · rw [← hw4]; exact (World.cell?_setCell_other _ _ _ _ (by intro e; injection e with _ e; omega)).trans q0
          · rw [← hw4]; exact (World.cell?_setCell_other _ _ _ _ (by intro e; injection e with _ e; omega)).trans q1
          · rw [← hw4]; exact World.cell?_setCell_same _ _ _ a2
          · rw [HMM.out, ← hcl3] at hj
            refine ⟨cs3[j], ?_⟩
            rw [← hw4, World.cell?_setCell_other _ _ _ _ (by intro e; injection e with e _; exact hne2 e.symm)]
            simp [World.cell?, c3, hj])
        obtain ⟨cc, hcc⟩ : ∃ cc, w2.heap.size = cc := ⟨_, rfl⟩
        rw [hcc] at HF hw4 hmk
        have HCC := Lib.hid (show wo.heap.size ≤ cc by omega)
        have f0 : decide ((0 : Int) < (p2 : Int)) = true := by simp; omega
        have HW3' := Lib.hid hw3'
        clear hcs3 hcl3 hw3' hk3 hb3 ht3 hT3 ht4 o3 o4 q0 q1 c3 n3 hcc
        go_wp2_with fail
        go_loopw [6, 61] (fun t6 t61 WW => ∃ j : Nat, j ≤ p2 ∧ t61 = .int .i64 j ∧ WW.ownsRow w.heap.size 131 2 t6 (Hq ++ (plsOf cc hps_ y.2.2.2.2).take j).length ((Hq ++ (plsOf cc hps_ y.2.2.2.2).take j).flatMap plC) ∧ KeepT 38 w4 WW ∧ Below w.heap.size w4 WW) (fun _ t _ => p2 - (intOf t).toNat)
        case atStart => exact ⟨0, Nat.zero_le _, rfl, by rw [List.take_zero, List.append_nil, HRW.out.2]; exact HF.out.2.1, KeepT.refl _ _, Below.refl _ _⟩
        case round =>
          obtain ⟨j, hj, rfl, hown, hkt, hbw⟩ := hrel
          have HOW := Lib.hid hown
          have HKT := Lib.hid hkt
          have HBW := Lib.hid hbw
          clear hown hkt hbw
          by_cases hjl : j < p2
          · have hpn : p2 = y.2.2.2.2.length := by obtain ⟨_, _, hv, _, _⟩ := own_form HN4.out.1; injection hv
            have hpj : y.2.2.2.2[j]? = some (y.2.2.2.2[j]'(by omega)) := List.getElem?_eq_getElem (by omega)
            obtain ⟨pj, hpe⟩ : ∃ pj, y.2.2.2.2[j]'(by omega) = pj := ⟨_, rfl⟩
            rw [hpe] at hpj
            obtain ⟨pb, pc, hpv, _, hpl⟩ := own_shape HN4.out.1 (by omega)
            injection hpv with hpv1 _ hpv3
            subst hpv1
            have hbz4 := HF.out.1.below.size
            have h49 := HN4.out.1
            rw [← hpn] at h49
            have hcell := h49.cellAt (g := pb) j (by omega)
            have xj : wr.cell? ⟨pb, j, none⟩ = some (.int .i64 (pj : Nat)) := by
              have hbwr5 : Below w.heap.size w wr := HS.out.2.2.2.1.trans (HF.out.1.below.trans HBW.out)
              rw [hbwr5.cell (p := ⟨pb, j, none⟩) hpl, hcell]
              simp [nums, ints, toI, hpj]
            have hT4 := HF.out.1.kept _ HT.out.2
            have hx2 : wr.cell? ⟨hB_, hO + 2, none⟩ = some (.slice (some ⟨cc, 0, none⟩) p2 p2) := (HKT.out.cell hT4 _).trans HF.out.2.2.2.2.1
            have hpa := plsOf_at cc hps_ y.2.2.2.2 j pj (by rw [HMM.out]; exact hjl) hpj
            have htk : (plsOf cc hps_ y.2.2.2.2).take (j + 1) = (plsOf cc hps_ y.2.2.2.2).take j ++ [(⟨cc, j * 3, (hps_.at_ j).1, (hps_.at_ j).2.1, (hps_.at_ j).2.2.1, (hps_.at_ j).2.2.2⟩, pj)] := by rw [List.take_add_one, hpa]; rfl
            have hwrz : w.heap.size ≤ wr.heap.size := Nat.le_trans (by omega) HBW.out.size
            have hlen : (Hq ++ (plsOf cc hps_ y.2.2.2.2).take j).length ≤ 10000000 := by rw [List.length_append, List.length_take, HRW.out.2]; omega
            obtain ⟨v7, w7, run7, own7, b7, k7⟩ := app_pl wr w.heap.size u6 _ HOW.out (⟨cc, j * 3, (hps_.at_ j).1, (hps_.at_ j).2.1, (hps_.at_ j).2.2.1, (hps_.at_ j).2.2.2⟩, pj) hlen hwrz
            rw [List.append_assoc, ← htk] at own7
            dsimp only at run7
            have HO7 := Lib.hid own7
            have HK7 := Lib.hid (HKT.out.trans k7)
            have HB7 := Lib.hid (HBW.out.trans b7)
            clear h49 hpn hpj hpe hcell hT4 hpa htk hwrz hlen own7 b7 k7
            go_wp2_with fail
            go_roundw
            case rel => exact ⟨j + 1, by omega, by go_num, HO7.out, HK7.out, HB7.out⟩
            case measure => simp [intOf]; omega
          · obtain rfl : j = p2 := by omega
            have hnew : LyInv R w w.heap.size (w.heap.size + 1) yk yn yps u6 wr (left_ (Hq.map (·.1)) + hps_.size) := by
              obtain ⟨t4, _, c0, c1, c2, hu⟩ := HF.out
              obtain ⟨hat, hap, hwd, hb, hrt, hrt2, hrb⟩ := HS.out
              have hT4 := t4.kept _ HT.out.2
              refine ly_step (c := cc) (u2 := (some ⟨cc, 0, none⟩, j, j)) HRI.out hat hap hwd hb hrt hrt2 hrb (by have := HM.out; omega) HNE.out.1 HNE.out.2 (t4.trans (Tch.keep HKT.out HBW.out)) HCC.out ((HKT.out.cell hT4 _).trans c0) ((HKT.out.cell hT4 _).trans c1) ((HKT.out.cell hT4 _).trans c2) ?_ ?_
              · rcases hu with h0 | ⟨hp, ⟨cs, hcs⟩, hcc, hh⟩
                · exact .inl h0
                · exact .inr ⟨hp, ⟨cs, HKT.out.2 _ _ hcs⟩, fun j hj => by obtain ⟨z, hz⟩ := hcc j hj; exact ⟨z, (World.cell?_of_block ((HKT.out.2 _ _ hcs).trans hcs.symm)).trans hz⟩, hh⟩
              · have h1 := HOW.out
                rw [List.take_of_length_le (by unfold plsOf; rw [List.length_zip, holesOf_len, HMM.out]; omega)] at h1
                exact h1
            have HN := Lib.hid hnew
            clear hnew
            go_wp2_with fail
            go_roundw
            case rel => exact ⟨_, HN.out⟩
            case measure =>
              have h1 := HM.out
              rw [HRW.out.2, List.map_append, left_app] at h1
              simp only [left_, List.map_cons, List.map_nil, List.sum_cons, List.sum_nil] at h1
              refine Nat.lt_of_lt_of_le (Nat.lt_of_le_of_lt (least_of HN.out).2 ?_) (Nat.le_of_eq h1)
              simp only [left_]
              omega
    · obtain ⟨A, c, rfl, _, _⟩ := own_form hown
      obtain ⟨gf, hgf, c0, c1, u', c2, hv⟩ := hwd wr (Nat.le_refl _) (fun h hh => by cases hh) (fun _ _ _ _ _ => rfl)
      rw [nm_id] at c1
      have HWD := Lib.hid hwd
      have HRB := Lib.hid hrb
      have hfz := frozen_cells hrt
      have r0 := cell_of_row wr w.heap.size 0 _ _ (0, 0) hrt
      have r1 := cell_of_row wr w.heap.size 1 _ _ (0, 0) hrt
      have r2 := cell_of_row wr w.heap.size 2 _ _ (0, 0) hrt
      simp [rt0] at r0 r1 r2
      have HRT := Lib.hid hrt
      have z0 := hfz 0
      have z1 := hfz 1
      have z2 := hfz 2
      obtain ⟨u1', u2', u3'⟩ := u'
      dsimp only [slv] at c2
      have HB := Lib.hid hb
      clear hwd hown hat hap hsm hfz hrt hrb hb hv hgf
      dsimp only [List.length_nil]
      go_wp2_with fail
      have hb1 : Below w.heap.size wr (((wr.setCell ⟨w.heap.size, 0, none⟩ (.int .i64 yk)).setCell ⟨w.heap.size, 1, none⟩ (.int .i64 yn)).setCell ⟨w.heap.size, 2, none⟩ (.slice u1' u2' u3')) :=
        (((Below.refl _ _).setCell (by simp) _).setCell (by simp) _).setCell (by simp) _
      have far : ∀ b off, b ≠ w.heap.size → (((wr.setCell ⟨w.heap.size, 0, none⟩ (.int .i64 yk)).setCell ⟨w.heap.size, 1, none⟩ (.int .i64 yn)).setCell ⟨w.heap.size, 2, none⟩ (.slice u1' u2' u3')).cell? ⟨b, off, none⟩ = wr.cell? ⟨b, off, none⟩ := by
        intro b off hne
        rw [World.cell?_setCell_other _ _ _ _ (by intro e; injection e with e _; exact hne e.symm), World.cell?_setCell_other _ _ _ _ (by intro e; injection e with e _; exact hne e.symm), World.cell?_setCell_other _ _ _ _ (by intro e; injection e with e _; exact hne e.symm)]
      obtain ⟨s0, s1, s2⟩ := lset3 (w := wr) w.heap.size 0 (.int .i64 yk) (.int .i64 yn) (.slice u1' u2' u3') r0 r1 r2
      refine bodyPost_ret (results_box rfl _ _ _ _ rfl (load_ty (u := (u1', u2', u3')) s0 s1 s2)) rfl ?_
      refine ⟨(u1', u2', u3'), rfl, fun W hWs hWc => ?_, HB.out.trans hb1⟩
      have hWf : ∀ b, w.heap.size ≤ b → isT 38 w.heap.size wr b → ∀ off, W.cell? ⟨b, off, none⟩ = wr.cell? ⟨b, off, none⟩ := by
        intro b hB ⟨hne, cs, hc⟩ off
        have hw := hWc b cs hB (by
          rw [Below.heap_setCell _ _ _ _ (by simpa using hne), Below.heap_setCell _ _ _ _ (by simpa using hne), Below.heap_setCell _ _ _ _ (by simpa using hne)]
          exact hc)
        exact World.cell?_of_block (hw.trans hc.symm)
      obtain ⟨g', hg', _, _, ⟨v1', v2', v3'⟩, c2', hv'⟩ := HWD.out W (Nat.le_trans hb1.size hWs) (fun h hh => by cases hh) (fun b off hB hT _ => hWf b hB hT off)
      have hrbT : isT 38 w.heap.size wr (w.heap.size + 1) := HRB.out
      rw [hWf _ (by omega) hrbT, c2] at c2'
      unfold slv at c2'
      injection c2' with c2'
      injection c2' with e1 e2 e3
      subst e1; subst e2; subst e3
      exact ⟨g', hg', hv'⟩
end Go.Proofs.Ytbdckmnppeglfaa
