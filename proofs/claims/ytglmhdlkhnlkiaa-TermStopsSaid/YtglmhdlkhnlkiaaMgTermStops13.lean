/- Texts of one proof, one behind the other. -/
import Derived.Test.YtglmhdlkhnlkiaaMgTermStops12
import Derived.Test.YtglmhdlkhnlkiaaMgTermStops9
/- types.Copy, types.Shift. -/
namespace Go.Proofs.Ytglmhdlkhnlkiaa
open Go.RowKit Go.Shelf

/-- A struct stored into a result's cell, and loaded. -/
theorem ret_cells {w : World} (g : Nat) (k n : Int) (u : Sl) (hg : w.heap[g]? = some (Obj.cells rt0 24)) :
    w.cell? ⟨g, 0, none⟩ = some (.int .i64 0) ∧ w.cell? ⟨g, 1, none⟩ = some (.int .i64 0) ∧ w.cell? ⟨g, 2, none⟩ = some (.slice none 0 0) ∧ w.frozen? ⟨g, 0, none⟩ = false ∧ w.frozen? ⟨g, 1, none⟩ = false ∧ w.frozen? ⟨g, 2, none⟩ = false ∧
    ∃ w', ((w.setCell ⟨g, 0, none⟩ (.int .i64 k)).setCell ⟨g, 1, none⟩ (.int .i64 n)).setCell ⟨g, 2, none⟩ (slv u) = w' ∧ (loadVar 24 ⟨g, 0, none⟩).run Try.prog w' = .ok (tyVal k n (slv u)) w' ∧ w'.heap.size = w.heap.size ∧ (∀ b, b ≠ g → w'.heap[b]? = w.heap[b]?) ∧ Below g w w' := by
  have r0 := cell_of_row w g 0 _ _ (0, 0) hg
  have r1 := cell_of_row w g 1 _ _ (0, 0) hg
  have r2 := cell_of_row w g 2 _ _ (0, 0) hg
  simp [rt0] at r0 r1 r2
  have e01 : (⟨g, 1, none⟩ : Addr) ≠ ⟨g, 0, none⟩ := by intro e; injection e with _ e; omega
  have e02 : (⟨g, 2, none⟩ : Addr) ≠ ⟨g, 0, none⟩ := by intro e; injection e with _ e; omega
  have e12 : (⟨g, 2, none⟩ : Addr) ≠ ⟨g, 1, none⟩ := by intro e; injection e with _ e; omega
  refine ⟨r0, r1, r2, frozen_cells hg 0, frozen_cells hg 1, frozen_cells hg 2, _, rfl, load_ty ?_ ?_ ?_, by simp [World.setCell], fun b hne => ?_, ?_⟩
  rotate_right
  · exact (((Below.refl g w).setCell (p := ⟨g, 0, none⟩) (Nat.le_refl g) _).setCell (p := ⟨g, 1, none⟩) (Nat.le_refl g) _).setCell (p := ⟨g, 2, none⟩) (Nat.le_refl g) _
  · rw [World.cell?_setCell_other _ _ _ _ e02, World.cell?_setCell_other _ _ _ _ e01, World.cell?_setCell_same _ _ _ r0]
  · rw [World.cell?_setCell_other _ _ _ _ e12]
    exact World.cell?_setCell_same _ _ _ ((World.cell?_setCell_other _ _ _ _ e01.symm).trans r1)
  · exact World.cell?_setCell_same _ _ _ ((World.cell?_setCell_other _ _ _ _ e12.symm).trans ((World.cell?_setCell_other _ _ _ _ e02.symm).trans r2))
  · rw [Below.heap_setCell _ _ _ _ (by simpa using hne), Below.heap_setCell _ _ _ _ (by simpa using hne), Below.heap_setCell _ _ _ _ (by simpa using hne)]
/-- A number as it is. -/
theorem copy1_any (m : Int) (W : World) : Calls Try.prog 53 (#[.int .i64 m] ++ #[]) W fun e W' => e = .returned (.int .i64 (idn m)) ∧ W' = W := by
  rw [Array.append_empty]
  go_enter Try.func53, Try.ntmps53
  go_wp2
  go_ret
  exact ⟨rfl, rfl⟩
theorem copy_any (w : World) (k n : Int) (u : Sl) (ps : Fo) (hps : TyV w.heap.size w ps (slv u)) (hs : ps.size < 1000000) :
    Calls Try.prog 35 #[tyVal k n (slv u)] w fun e w' => ∃ u' : Sl, e = .returned (tyVal k n (slv u')) ∧ Below w.heap.size w w' ∧ FreshT 24 w.heap.size w' idn ps u' := by
  obtain ⟨u1, u2, u3⟩ := u
  obtain ⟨w2, hw2⟩ : ∃ w2, (w.alloc (.cells #[.int .i64 k, .int .i64 n, .slice u1 u2 u3] 24)).alloc (.cells #[.int .i64 0, .int .i64 0, .slice none 0 0] 24) = w2 := ⟨_, rfl⟩
  have hs2 : w2.heap.size = w.heap.size + 1 + 1 := by rw [← hw2]; simp
  have hb2 : Below w.heap.size w w2 := by rw [← hw2]; exact ((Below.refl _ w).alloc (Nat.le_refl _) _).alloc (by simp) _
  have h0 : w2.heap[w.heap.size]? = some (.cells #[.int .i64 k, .int .i64 n, .slice u1 u2 u3] 24) := by
    rw [← hw2]; exact (Below.heap_alloc _ _ _ (by simp)).trans (heap_alloc_new w _)
  have h1 : w2.heap[w.heap.size + 1]? = some (.cells rt0 24) := by
    rw [← hw2]
    have := heap_alloc_new (w.alloc (.cells #[.int .i64 k, .int .i64 n, .slice u1 u2 u3] 24)) (.cells #[.int .i64 0, .int .i64 0, .slice none 0 0] 24)
    rwa [World.size_alloc] at this
  have c0 : w2.cell? ⟨w.heap.size, 0, none⟩ = some (.int .i64 k) := cell_of_row w2 w.heap.size 0 _ _ (0, 0) h0
  have c1 : w2.cell? ⟨w.heap.size, 1, none⟩ = some (.int .i64 n) := cell_of_row w2 w.heap.size 1 _ _ (0, 0) h0
  have c2 : w2.cell? ⟨w.heap.size, 2, none⟩ = some (.slice u1 u2 u3) := cell_of_row w2 w.heap.size 2 _ _ (0, 0) h0
  have hc := change_any idn 53 #[] (enters_of Try.func53 (by kernel_rfl) rfl) w2 k n (u1, u2, u3) ps ((hps.below hb2).keep hb2.size fun _ _ _ => rfl) hs (fun m W _ => copy1_any m W)
  rw [nm_id] at hc
  have HC := Lib.hid hc
  have HB := Lib.hid hb2
  have H1 := Lib.hid h1
  clear hps hc hb2 h0 h1
  dsimp only [tyVal, slv] at HC ⊢
  go_enter Try.func35, Try.ntmps35
  go_wp2_with fail
  refine HC.out.mono ?_
  rintro e w3 ⟨u', rfl, hb3, hf⟩
  obtain ⟨r0, r1, r2, z0, z1, z2, w4, hw4, hld, hsz, hfar, hbl⟩ := ret_cells (w := w3) (w.heap.size + 1) k n u' ((hb3.block _ (by omega)).trans H1.out)
  have HL := Lib.hid hld
  have HF := Lib.hid hf
  have HFR := Lib.hid hfar
  obtain ⟨u1', u2', u3'⟩ := u'
  dsimp only [tyVal, slv] at hw4 ⊢
  clear hld hf hfar
  go_wp2_with fail
  refine bodyPost_ret (results_box rfl _ _ _ _ rfl HL.out) rfl ?_
  have hb4 : Below w.heap.size w w4 := (HB.out.trans (hb3.mono (by omega))).trans (hbl.mono (by omega))
  refine ⟨(u1', u2', u3'), rfl, hb4, FreshT.mono (HF.out.to (by omega) fun b cs hb hc => (HFR.out b (by omega)).trans hc) (by omega)⟩
/-- What Shift makes of a number. -/
def shn (fr tt by_ : Int) (n : Int) : Int :=
  let s := wrap64 (n + by_)
  if (decide (0 ≤ n) && decide (n < 1073741824)) && decide (fr ≤ n) && decide (n < tt) && (decide (0 ≤ s) && decide (s < 1073741824)) then s else n
end Go.Proofs.Ytglmhdlkhnlkiaa
