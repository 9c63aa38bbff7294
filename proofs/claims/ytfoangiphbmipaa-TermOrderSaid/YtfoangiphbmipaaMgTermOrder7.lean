/- Texts of one proof, one behind the other. -/
import Derived.Test.YtfoangiphbmipaaMgTermOrder5
import Derived.Test.YtfoangiphbmipaaMgTermOrder2
import Derived.Deep.RegionWith
import Derived.Test.YtfoangiphbmipaaMgTermOrder6
/- types.rightAlone. -/
namespace Go.Proofs.Ytfoangiphbmipaa
open Go.RowKit Go.Shelf

/-- Is one a type, its parts left aside? -/
def alone (k n : Int) (m : Nat) : Bool :=
  if k = 1 then decide (0 ≤ n) && decide (n < 1073741824) && ((m : Int) == 0)
  else if k = 2 ∨ k = 3 then (n == 0) && ((m : Int) == 0)
  else if k = 4 then (n == 0) && ((m : Int) == 2)
  else if k = 5 then (n == 0) && decide (2 ≤ (m : Int)) && decide ((m : Int) ≤ 8)
  else false
theorem number_any (n : Int) (w : World) : Calls Try.prog 52 #[.int .i64 n] w fun e w' => e = .returned (.bool (decide (0 ≤ n) && decide (n < 1073741824))) ∧ w' = w := by
  go_enter Try.func52, Try.ntmps52
  by_cases h : 0 ≤ n
  · have h2 : decide (0 ≤ n) = true := decide_eq_true h
    go_wp2
    go_ret
    exact ⟨by rw [h2]; rfl, rfl⟩
  · have h2 : decide (0 ≤ n) = false := decide_eq_false h
    go_wp2
    go_ret
    exact ⟨rfl, rfl⟩
set_option maxHeartbeats 1000000 in
theorem alone_any (k n : Int) (A : Option Addr) (m c : Nat) (w : World) : Calls Try.prog 46 #[tyVal k n (.slice A m c)] w fun e w' => e = .returned (.bool (alone k n m)) ∧ Below w.heap.size w w' := by
  dsimp only [tyVal]
  go_enter Try.func46, Try.ntmps46
  have HB := Lib.hid (show ∀ (cs : Array Value) (t : TypeId), Below w.heap.size w (w.alloc (Obj.cells cs t)) from fun cs t => (Below.refl _ w).alloc (Nat.le_refl _) _)
  by_cases h1 : k = 1
  · subst h1
    go_wp2_with fail
    refine (number_any n _).mono ?_
    rintro e w' ⟨rfl, rfl⟩
    obtain ⟨b, hb⟩ : ∃ b, (decide (0 ≤ n) && decide (n < 1073741824)) = b := ⟨_, rfl⟩
    rw [hb]
    have HN := Lib.hid hb
    clear hb
    cases b
    · go_wp2
      go_ret
      refine ⟨?_, HB.out _ _⟩
      simp [alone, HN.out]
    · go_wp2
      go_ret
      refine ⟨?_, HB.out _ _⟩
      simp [alone, HN.out]
  by_cases h2 : k = 2
  · subst h2
    obtain ⟨b, hb⟩ : ∃ b, (n == 0) = b := ⟨_, rfl⟩
    cases b
    · go_wp2
      go_ret
      refine ⟨?_, HB.out _ _⟩
      simp [alone, hb]
    · go_wp2
      go_ret
      refine ⟨?_, HB.out _ _⟩
      simp [alone, hb]
  by_cases h3 : k = 3
  · subst h3
    obtain ⟨b, hb⟩ : ∃ b, (n == 0) = b := ⟨_, rfl⟩
    cases b
    · go_wp2
      go_ret
      refine ⟨?_, HB.out _ _⟩
      simp [alone, hb]
    · go_wp2
      go_ret
      refine ⟨?_, HB.out _ _⟩
      simp [alone, hb]
  by_cases h4 : k = 4
  · subst h4
    obtain ⟨b, hb⟩ : ∃ b, (n == 0) = b := ⟨_, rfl⟩
    cases b
    · go_wp2
      go_ret
      refine ⟨?_, HB.out _ _⟩
      simp [alone, hb]
    · go_wp2
      go_ret
      refine ⟨?_, HB.out _ _⟩
      simp [alone, hb]
  by_cases h5 : k = 5
  · subst h5
    obtain ⟨b, hb⟩ : ∃ b, (n == 0) = b := ⟨_, rfl⟩
    obtain ⟨d, hd⟩ : ∃ d, decide (2 ≤ (m : Int)) = d := ⟨_, rfl⟩
    cases b
    · go_wp2
      go_ret
      refine ⟨?_, HB.out _ _⟩
      simp [alone, hb]
    cases d
    · go_wp2
      go_ret
      refine ⟨?_, HB.out _ _⟩
      simp [alone, hb, hd]
    · go_wp2
      go_ret
      refine ⟨?_, HB.out _ _⟩
      simp [alone, hb, hd]
  have f1 : (k == 1) = false := beq_eq_false_iff_ne.2 h1
  have f2 : (k == 2) = false := beq_eq_false_iff_ne.2 h2
  have f3 : (k == 3) = false := beq_eq_false_iff_ne.2 h3
  have f4 : (k == 4) = false := beq_eq_false_iff_ne.2 h4
  have f5 : (k == 5) = false := beq_eq_false_iff_ne.2 h5
  go_wp2
  go_ret
  refine ⟨?_, HB.out _ _⟩
  simp [alone, h1, h2, h3, h4, h5]
end Go.Proofs.Ytfoangiphbmipaa
/- The answer's Same. -/
namespace Go.Proofs.Ytfoangiphbmipaa
open Go.RowKit

namespace Fo
/-- Are two lists of types the same? -/
def same : Fo → Fo → Bool
  | nil, nil => true
  | cons k n _ ps r, cons k' n' _ ps' r' => k == k' && n == n' && ps.same ps' && r.same r'
  | _, _ => false
/-- Are two types the same? -/
def same1 (x y : Int × Int × Sl × Fo) : Bool := x.1 == y.1 && x.2.1 == y.2.1 && x.2.2.2.same y.2.2.2
theorem same_len (f g : Fo) (h : f.same g = true) : f.len = g.len := by
  induction f generalizing g with
  | nil => cases g <;> simp [same] at h ⊢
  | cons k n u ps r _ ih =>
    cases g with
    | nil => simp [same] at h
    | cons k' n' u' ps' r' =>
      simp only [same, Bool.and_eq_true] at h
      simp [len, ih r' h.2]
theorem same_split (f g : Fo) (j : Nat) (h : f.len = g.len) (hj : j < f.len) : f.same g = ((f.take j).same (g.take j) && (same1 (f.at_ j) (g.at_ j) && (f.drop (j + 1)).same (g.drop (j + 1)))) := by
  induction f generalizing g j with
  | nil => simp [len] at hj
  | cons k n u ps r _ ih =>
    cases g with
    | nil => simp [len] at h
    | cons k' n' u' ps' r' =>
      cases j with
      | zero => simp [same, take, at_, drop, same1]
      | succ j =>
        have := ih r' j (by simpa [len] using h) (by simpa [len] using hj)
        simp only [same, take, at_, drop]
        rw [this]
        simp [Bool.and_assoc]
theorem same_take (f g : Fo) (j : Nat) (h : f.len = g.len) (hj : j < f.len) : (f.take (j + 1)).same (g.take (j + 1)) = ((f.take j).same (g.take j) && same1 (f.at_ j) (g.at_ j)) := by
  induction f generalizing g j with
  | nil => simp [len] at hj
  | cons k n u ps r _ ih =>
    cases g with
    | nil => simp [len] at h
    | cons k' n' u' ps' r' =>
      cases j with
      | zero => simp [same, take, at_, same1]
      | succ j =>
        have := ih r' j (by simpa [len] using h) (by simpa [len] using hj)
        simp only [same, take, at_] at this ⊢
        rw [this]
        simp [Bool.and_assoc]
end Fo
set_option maxHeartbeats 2000000 in
set_option maxRecDepth 100000 in
theorem rsame_any (m : Nat) : ∀ (f g : Fo) (k n k' n' : Int) (v v' : Value) (w : World), f.size < m → f.size ≤ 1000000 → g.size ≤ 1000000 → TyV w.heap.size w f v → TyV w.heap.size w g v' →
    Calls Try.prog 37 #[tyVal k n v, tyVal k' n' v'] w fun e w' => e = .returned (.bool (k == k' && n == n' && f.same g)) ∧ Below w.heap.size w w' := by
  induction m with
  | zero => intro f g k n k' n' v v' w h; omega
  | succ m ih =>
    intro f g k n k' n' v v' w hm hs hs' h h'
    obtain ⟨A, c, rfl⟩ := h.slice
    obtain ⟨A', c', rfl⟩ := h'.slice
    have H := Lib.hid h
    have H' := Lib.hid h'
    have IH := Lib.hid ih
    have hll := f.len_le_size
    have hll' := g.len_le_size
    clear h ih h'
    unfold tyVal
    go_enter Try.func37, Try.ntmps37
    have HB0 := Lib.hid (show ∀ (cs cs' : Array Value) (t t' : TypeId), Below w.heap.size w ((w.alloc (Obj.cells cs t)).alloc (Obj.cells cs' t')) from fun cs cs' t t' => ((Below.refl _ w).alloc (Nat.le_refl _) _).alloc (by simp) _)
    obtain ⟨q, hq⟩ : ∃ q, f.len = q := ⟨_, rfl⟩
    obtain ⟨q', hq'⟩ : ∃ q', g.len = q' := ⟨_, rfl⟩
    rw [hq] at hll ⊢
    rw [hq'] at hll' ⊢
    have HQ := Lib.hid hq
    have HQ' := Lib.hid hq'
    clear hq hq'
    by_cases h1 : k = k'
    case neg =>
      have f1 : (k != k') = true := bne_iff_ne.2 h1
      go_wp2_with fail
      go_ret
      exact ⟨ret_bool (by rw [beq_eq_false_iff_ne.2 h1]; rfl), HB0.out _ _ _ _⟩
    have f1 : (k != k') = false := by rw [h1]; simp
    by_cases h2 : n = n'
    case neg =>
      have f2 : (n != n') = true := bne_iff_ne.2 h2
      go_wp2_with fail
      go_ret
      exact ⟨ret_bool (by rw [beq_eq_false_iff_ne.2 h2]; simp), HB0.out _ _ _ _⟩
    have f2 : (n != n') = false := by rw [h2]; simp
    have hkn : (k == k' && n == n') = true := by rw [h1, h2]; simp
    have HKN := Lib.hid hkn
    clear hkn
    by_cases h3 : q = q'
    case neg =>
      have f3 : ((q : Int) != q') = true := bne_iff_ne.2 (by omega)
      have hsf : f.same g = false := by
        cases hb : f.same g with
        | false => rfl
        | true => exact absurd (f.same_len g hb) (by rw [HQ.out, HQ'.out]; exact h3)
      have HSF := Lib.hid hsf
      clear h1 h2 hsf
      go_wp2_with fail
      go_ret
      exact ⟨ret_bool (by rw [HKN.out, HSF.out]; rfl), HB0.out _ _ _ _⟩
    subst h3
    clear h1 h2
    have HFG := Lib.hid (show f.len = g.len by rw [HQ.out, HQ'.out])
    go_wp2_with fail
    go_loopw [5] (fun t5 wr => ∃ j : Nat, j ≤ q ∧ t5 = .int .i64 j ∧ (f.take j).same (g.take j) = true ∧ wr.cell? ⟨w.heap.size, 2, none⟩ = some (.slice A q c) ∧ wr.cell? ⟨w.heap.size + 1, 2, none⟩ = some (.slice A' q c') ∧ Below w.heap.size w wr ∧ w.heap.size + 2 ≤ wr.heap.size) (fun t _ => q - (intOf t).toNat)
    case atStart => exact ⟨0, Nat.zero_le _, rfl, by simp [Fo.take_zero, Fo.same], by go_simp, by go_simp, HB0.out _ _ _ _, by simp⟩
    case round =>
      obtain ⟨j, hj, rfl, hja, e2, e3, hb, hz⟩ := hrel
      have HB := Lib.hid hb
      have HJA := Lib.hid hja
      clear hja hb
      by_cases hjl : j < q
      · have hjf : j < f.len := by rw [HQ.out]; exact hjl
        have hjg : j < g.len := by rw [HQ'.out]; exact hjl
        obtain ⟨b, off, cap, hv, _, _, hlt, hC⟩ := H.out.form (by omega)
        injection hv with hA _ hcc
        subst hA; subst hcc
        obtain ⟨b', off', cap', hv', _, _, hlt', hC'⟩ := H'.out.form (by omega)
        injection hv' with hA' _ hcc'
        subst hA'; subst hcc'
        obtain ⟨d0, d1, d2, hch⟩ := tyC_at hC j hjf
        obtain ⟨d0', d1', d2', hch2⟩ := tyC_at hC' j hjg
        have c0 := (HB.out.cell (p := ⟨b, off + j * 3, none⟩) hlt).trans d0
        have c1 := (HB.out.cell (p := ⟨b, off + j * 3 + 1, none⟩) hlt).trans d1
        have c2 := (HB.out.cell (p := ⟨b, off + j * 3 + 2, none⟩) hlt).trans d2
        have c0' := (HB.out.cell (p := ⟨b', off' + j * 3, none⟩) hlt').trans d0'
        have c1' := (HB.out.cell (p := ⟨b', off' + j * 3 + 1, none⟩) hlt').trans d1'
        have c2' := (HB.out.cell (p := ⟨b', off' + j * 3 + 2, none⟩) hlt').trans d2'
        have hch' : TyV wr.heap.size wr (f.at_ j).2.2.2 (slv (f.at_ j).2.2.1) := hch.keep HB.out.size fun b off hb' => HB.out.cell (p := ⟨b, off, none⟩) hb'
        have hch3 : TyV wr.heap.size wr (g.at_ j).2.2.2 (slv (g.at_ j).2.2.1) := hch2.keep HB.out.size fun b off hb' => HB.out.cell (p := ⟨b, off, none⟩) hb'
        have hsz := f.at_size j hjf
        have hsz' := g.at_size j hjg
        have hsp := f.same_split g j HFG.out hjf
        have htk := f.same_take g j HFG.out hjf
        have hrec := IH.out (f.at_ j).2.2.2 (g.at_ j).2.2.2 (f.at_ j).1 (f.at_ j).2.1 (g.at_ j).1 (g.at_ j).2.1 (slv (f.at_ j).2.2.1) (slv (g.at_ j).2.2.1) wr.drew (by omega) (by omega) (by omega) (hch'.below (Below.refl _ wr).drew) (hch3.below (Below.refl _ wr).drew)
        clear d0 d1 d2 hC hch hch' hsz d0' d1' d2' hC' hch2 hch3 hsz'
        unfold tyVal at hrec
        generalize f.at_ j = p at *
        generalize g.at_ j = p' at *
        obtain ⟨pk, pn, pv, pf⟩ := p
        obtain ⟨pk', pn', pv', pf'⟩ := p'
        dsimp only [Fo.same1] at hsp htk hrec c0 c1 c2 c0' c1' c2'
        obtain ⟨x, hx⟩ : ∃ x, (pk == pk' && pn == pn' && pf.same pf') = x := ⟨_, rfl⟩
        rw [hx] at hrec hsp htk
        have HREC := Lib.hid hrec
        have HSP := Lib.hid (show f.same g = (x && (f.drop (j + 1)).same (g.drop (j + 1))) by rw [hsp, HJA.out]; rfl)
        have HTK := Lib.hid (show (f.take (j + 1)).same (g.take (j + 1)) = x by rw [htk, HJA.out]; rfl)
        clear hrec hsp htk hx hjf hjg
        go_wp2_with fail
        dsimp only [slv] at *
        go_region_with (go_at_call 37; refine HREC.out.mono ?_; rintro e w2 ⟨rfl, hb3⟩)
        all_goals
          have e2' := (hb3.cell (p := ⟨w.heap.size, 2, none⟩) (by show w.heap.size < wr.heap.size; omega)).trans e2
          have e3' := (hb3.cell (p := ⟨w.heap.size + 1, 2, none⟩) (by show w.heap.size + 1 < wr.heap.size; omega)).trans e3
          have HB3 := Lib.hid (show Below wr.heap.size wr w2 from (Below.refl _ wr).drew.trans hb3)
          clear hb3
          cases x
          · go_wp2_with fail
            go_ret
            exact ⟨ret_bool (by rw [HKN.out, HSP.out]; rfl), HB.out.trans (HB3.out.mono (by omega))⟩
          · go_wp2_with fail
            go_roundw
            case rel => exact ⟨j + 1, by omega, by go_num, HTK.out, e2', e3', HB.out.trans (HB3.out.mono (by omega)), Nat.le_trans hz HB3.out.size⟩
            case measure => simp [intOf]; omega
      · obtain rfl : j = q := by omega
        have HT : Hid (f.take j = f) := Lib.hid (by rw [← HQ.out]; exact f.take_len)
        have HT' : Hid (g.take j = g) := Lib.hid (by rw [← HQ'.out]; exact g.take_len)
        go_wp2_with fail
        go_ret
        exact ⟨ret_bool (by rw [HKN.out, ← HT.out, ← HT'.out, HJA.out]; rfl), HB.out⟩
end Go.Proofs.Ytfoangiphbmipaa
/- types.Copy, types.Shift. -/
namespace Go.Proofs.Ytfoangiphbmipaa
open Go.RowKit Go.Shelf

/-- A struct stored into a result's cell, and loaded. -/
theorem ret_cells {w : World} (g : Nat) (k n : Int) (u : Sl) (hg : w.heap[g]? = some (Obj.cells rt0 24)) :
    w.cell? ⟨g, 0, none⟩ = some (.int .i64 0) ∧ w.cell? ⟨g, 1, none⟩ = some (.int .i64 0) ∧ w.cell? ⟨g, 2, none⟩ = some (.slice none 0 0) ∧ w.frozen? ⟨g, 0, none⟩ = false ∧ w.frozen? ⟨g, 1, none⟩ = false ∧ w.frozen? ⟨g, 2, none⟩ = false ∧
    ∃ w', ((w.setCell ⟨g, 0, none⟩ (.int .i64 k)).setCell ⟨g, 1, none⟩ (.int .i64 n)).setCell ⟨g, 2, none⟩ (slv u) = w' ∧ (loadVar 24 ⟨g, 0, none⟩).run Try.prog w' = .ok (tyVal k n (slv u)) w' ∧ w'.heap.size = w.heap.size ∧ (∀ b, b ≠ g → w'.heap[b]? = w.heap[b]?) ∧ Below g w w' := by
  have r0 := cell_of_row w g 0 _ _ (0, 0) hg
  have r1 := cell_of_row w g 1 _ _ (0, 0) hg
  have r2 := cell_of_row w g 2 _ _ (0, 0) hg
  simp [rt0] at r0 r1 r2
  have e01 : (⟨g, 1, none⟩ : Addr) ≠ ⟨g, 0, none⟩ := by intro e; injection e with _ e; omega
  have e02 : (⟨g, 2, none⟩ : Addr) ≠ ⟨g, 0, none⟩ := by intro e; injection e with _ e; omega
  have e12 : (⟨g, 2, none⟩ : Addr) ≠ ⟨g, 1, none⟩ := by intro e; injection e with _ e; omega
  refine ⟨r0, r1, r2, frozen_cells hg 0, frozen_cells hg 1, frozen_cells hg 2, _, rfl, load_ty ?_ ?_ ?_, by simp [World.setCell], fun b hne => ?_, ?_⟩
  rotate_right
  · exact (((Below.refl g w).setCell (p := ⟨g, 0, none⟩) (Nat.le_refl g) _).setCell (p := ⟨g, 1, none⟩) (Nat.le_refl g) _).setCell (p := ⟨g, 2, none⟩) (Nat.le_refl g) _
  · rw [World.cell?_setCell_other _ _ _ _ e02, World.cell?_setCell_other _ _ _ _ e01, World.cell?_setCell_same _ _ _ r0]
  · rw [World.cell?_setCell_other _ _ _ _ e12]
    exact World.cell?_setCell_same _ _ _ ((World.cell?_setCell_other _ _ _ _ e01.symm).trans r1)
  · exact World.cell?_setCell_same _ _ _ ((World.cell?_setCell_other _ _ _ _ e12.symm).trans ((World.cell?_setCell_other _ _ _ _ e02.symm).trans r2))
  · rw [Below.heap_setCell _ _ _ _ (by simpa using hne), Below.heap_setCell _ _ _ _ (by simpa using hne), Below.heap_setCell _ _ _ _ (by simpa using hne)]
/-- A number as it is. -/
theorem copy1_any (m : Int) (W : World) : Calls Try.prog 35 (#[.int .i64 m] ++ #[]) W fun e W' => e = .returned (.int .i64 (idn m)) ∧ W' = W := by
  rw [Array.append_empty]
  go_enter Try.func35, Try.ntmps35
  go_wp2
  go_ret
  exact ⟨rfl, rfl⟩
theorem copy_any (w : World) (k n : Int) (u : Sl) (ps : Fo) (hps : TyV w.heap.size w ps (slv u)) (hs : ps.size < 1000000) :
    Calls Try.prog 25 #[tyVal k n (slv u)] w fun e w' => ∃ u' : Sl, e = .returned (tyVal k n (slv u')) ∧ Below w.heap.size w w' ∧ FreshT 24 w.heap.size w' idn ps u' := by
  obtain ⟨u1, u2, u3⟩ := u
  obtain ⟨w2, hw2⟩ : ∃ w2, (w.alloc (.cells #[.int .i64 k, .int .i64 n, .slice u1 u2 u3] 24)).alloc (.cells #[.int .i64 0, .int .i64 0, .slice none 0 0] 24) = w2 := ⟨_, rfl⟩
  have hs2 : w2.heap.size = w.heap.size + 1 + 1 := by rw [← hw2]; simp
  have hb2 : Below w.heap.size w w2 := by rw [← hw2]; exact ((Below.refl _ w).alloc (Nat.le_refl _) _).alloc (by simp) _
  have h0 : w2.heap[w.heap.size]? = some (.cells #[.int .i64 k, .int .i64 n, .slice u1 u2 u3] 24) := by
    rw [← hw2]; exact (Below.heap_alloc _ _ _ (by simp)).trans (heap_alloc_new w _)
  have h1 : w2.heap[w.heap.size + 1]? = some (.cells rt0 24) := by
    rw [← hw2]
    have := heap_alloc_new (w.alloc (.cells #[.int .i64 k, .int .i64 n, .slice u1 u2 u3] 24)) (.cells #[.int .i64 0, .int .i64 0, .slice none 0 0] 24)
    rwa [World.size_alloc] at this
  have c0 : w2.cell? ⟨w.heap.size, 0, none⟩ = some (.int .i64 k) := cell_of_row w2 w.heap.size 0 _ _ (0, 0) h0
  have c1 : w2.cell? ⟨w.heap.size, 1, none⟩ = some (.int .i64 n) := cell_of_row w2 w.heap.size 1 _ _ (0, 0) h0
  have c2 : w2.cell? ⟨w.heap.size, 2, none⟩ = some (.slice u1 u2 u3) := cell_of_row w2 w.heap.size 2 _ _ (0, 0) h0
  have hc := change_any idn 35 #[] (enters_of Try.func35 (by kernel_rfl) rfl) w2 k n (u1, u2, u3) ps ((hps.below hb2).keep hb2.size fun _ _ _ => rfl) hs (fun m W _ => copy1_any m W)
  rw [nm_id] at hc
  have HC := Lib.hid hc
  have HB := Lib.hid hb2
  have H1 := Lib.hid h1
  clear hps hc hb2 h0 h1
  dsimp only [tyVal, slv] at HC ⊢
  go_enter Try.func25, Try.ntmps25
  go_wp2_with fail
  refine HC.out.mono ?_
  rintro e w3 ⟨u', rfl, hb3, hf⟩
  obtain ⟨r0, r1, r2, z0, z1, z2, w4, hw4, hld, hsz, hfar, hbl⟩ := ret_cells (w := w3) (w.heap.size + 1) k n u' ((hb3.block _ (by omega)).trans H1.out)
  have HL := Lib.hid hld
  have HF := Lib.hid hf
  have HFR := Lib.hid hfar
  obtain ⟨u1', u2', u3'⟩ := u'
  dsimp only [tyVal, slv] at hw4 ⊢
  clear hld hf hfar
  go_wp2_with fail
  refine bodyPost_ret (results_box rfl _ _ _ _ rfl HL.out) rfl ?_
  have hb4 : Below w.heap.size w w4 := (HB.out.trans (hb3.mono (by omega))).trans (hbl.mono (by omega))
  refine ⟨(u1', u2', u3'), rfl, hb4, FreshT.mono (HF.out.to (by omega) fun b cs hb hc => (HFR.out b (by omega)).trans hc) (by omega)⟩
/-- What Shift makes of a number. -/
def shn (fr tt by_ : Int) (n : Int) : Int :=
  let s := wrap64 (n + by_)
  if (decide (0 ≤ n) && decide (n < 1073741824)) && decide (fr ≤ n) && decide (n < tt) && (decide (0 ≤ s) && decide (s < 1073741824)) then s else n
end Go.Proofs.Ytfoangiphbmipaa
/- Plain facts on terms: a list of terms as a first-order thing; size, depth. Nothing here speaks of the program. -/
namespace Go.Proofs.Ytfoangiphbmipaa

/-- A term but for its parts: its kind, name, number, type (kind, number, where its parts lie, and what they are), where its parts lie, its span. -/
structure Nd where
  k : Int
  s : ByteArray
  n : Int
  tk : Int
  tn : Int
  tu : Sl
  ty : Fo
  u : Sl
  a : Int
  b : Int
/-- A list of terms. -/
inductive Te where
  | nil : Te
  | cons (x : Nd) (ps rest : Te) : Te
def nd0 : Nd := ⟨0, ByteArray.empty, 0, 0, 0, (none, 0, 0), .nil, (none, 0, 0), 0, 0⟩
/-- A term, with its parts. -/
abbrev Tm := Nd × Te
namespace Te
def len : Te → Nat
  | nil => 0
  | cons _ _ r => r.len + 1
/-- All terms in a list, with their parts. -/
def size : Te → Nat
  | nil => 0
  | cons _ ps r => 1 + ps.size + r.size
/-- The depth of the deepest one. -/
def depth : Te → Nat
  | nil => 0
  | cons _ ps r => max (1 + ps.depth) r.depth
def app : Te → Te → Te
  | nil, g => g
  | cons x ps r, g => cons x ps (r.app g)
def drop : Nat → Te → Te
  | 0, f => f
  | _ + 1, nil => nil
  | j + 1, cons _ _ r => r.drop j
def take : Nat → Te → Te
  | 0, _ => nil
  | _ + 1, nil => nil
  | j + 1, cons x ps r => cons x ps (r.take j)
/-- The one at a place. -/
def at_ : Nat → Te → Tm
  | _, nil => (nd0, nil)
  | 0, cons x ps _ => (x, ps)
  | j + 1, cons _ _ r => r.at_ j
/-- The terms of a list themselves. -/
def top : Te → List Tm
  | nil => []
  | cons x ps r => (x, ps) :: r.top
/-- All of them, each ahead of its parts. -/
def pre : Te → List Tm
  | nil => []
  | cons x ps r => (x, ps) :: (ps.pre ++ r.pre)
theorem size_app (f g : Te) : (f.app g).size = f.size + g.size := by
  induction f with
  | nil => simp [app, size]
  | cons x ps r _ ih => simp [app, size, ih]; omega
theorem len_app (f g : Te) : (f.app g).len = f.len + g.len := by
  induction f with
  | nil => simp [app, len]
  | cons x ps r _ ih => simp [app, len, ih]; omega
theorem app_nil (f : Te) : f.app nil = f := by
  induction f with
  | nil => rfl
  | cons x ps r _ ih => simp [app, ih]
theorem app_assoc (f g h : Te) : (f.app g).app h = f.app (g.app h) := by
  induction f with
  | nil => rfl
  | cons x ps r _ ih => simp [app, ih]
theorem len_le_size (f : Te) : f.len ≤ f.size := by
  induction f with
  | nil => simp [len]
  | cons x ps r _ ih => simp [len, size]; omega
theorem drop_step (f : Te) (j : Nat) (hj : j < f.len) : f.drop j = cons (f.at_ j).1 (f.at_ j).2 (f.drop (j + 1)) := by
  induction f generalizing j with
  | nil => simp [len] at hj
  | cons x ps r _ ih =>
    cases j with
    | zero => simp [drop, at_]
    | succ j => simp only [drop, at_]; exact ih j (by simp [len] at hj; omega)
theorem drop_len (f : Te) : f.drop f.len = nil := by
  induction f with
  | nil => rfl
  | cons x ps r _ ih => simpa [len, drop] using ih
theorem drop_zero (f : Te) : f.drop 0 = f := by cases f <;> rfl
theorem take_zero (f : Te) : f.take 0 = nil := by cases f <;> rfl
theorem take_len (f : Te) : f.take f.len = f := by
  induction f with
  | nil => rfl
  | cons x ps r _ ih => simp [len, take, ih]
theorem len_take (f : Te) (j : Nat) (hj : j ≤ f.len) : (f.take j).len = j := by
  induction f generalizing j with
  | nil => simp [len] at hj; subst hj; rfl
  | cons x ps r _ ih =>
    cases j with
    | zero => rfl
    | succ j => simp only [take, len]; rw [ih j (by simp [len] at hj; omega)]
theorem take_step (f : Te) (j : Nat) (hj : j < f.len) : f.take (j + 1) = (f.take j).app (cons (f.at_ j).1 (f.at_ j).2 nil) := by
  induction f generalizing j with
  | nil => simp [len] at hj
  | cons x ps r _ ih =>
    cases j with
    | zero => simp [take, at_, app]
    | succ j => simp only [take, at_, app]; rw [ih j (by simp [len] at hj; omega)]
theorem at_size (f : Te) (j : Nat) (hj : j < f.len) : (f.at_ j).2.size < f.size := by
  induction f generalizing j with
  | nil => simp [len] at hj
  | cons x ps r _ ih =>
    cases j with
    | zero => simp [at_, size]; omega
    | succ j => have := ih j (by simp [len] at hj; omega); simp [at_, size]; omega
theorem size_drop_step (f : Te) (j : Nat) (hj : j < f.len) : (f.drop j).size = 1 + (f.at_ j).2.size + (f.drop (j + 1)).size := by
  rw [drop_step f j hj, size]
theorem size_take_step (f : Te) (j : Nat) (hj : j < f.len) : (f.take (j + 1)).size = (f.take j).size + (1 + (f.at_ j).2.size) := by
  rw [take_step f j hj, size_app]
  simp [size]
theorem at_depth (f : Te) (j : Nat) (hj : j < f.len) : (f.at_ j).2.depth + 1 ≤ f.depth := by
  induction f generalizing j with
  | nil => simp [len] at hj
  | cons x ps r _ ih =>
    cases j with
    | zero => simp [at_, depth]; omega
    | succ j => have := ih j (by simp [len] at hj; omega); simp [at_, depth]; omega
theorem size_take_le (f : Te) (j : Nat) : (f.take j).size ≤ f.size := by
  induction f generalizing j with
  | nil => cases j <;> simp [take]
  | cons x ps r _ ih =>
    cases j with
    | zero => simp [take, size]
    | succ j => have := ih j; simp [take, size]; omega
theorem depth_app (f g : Te) : (f.app g).depth = max f.depth g.depth := by
  induction f with
  | nil => simp [app, depth]
  | cons x ps r _ ih => simp [app, depth, ih] <;> omega
theorem depth_le_size (f : Te) : f.depth ≤ f.size := by
  induction f with
  | nil => simp [depth]
  | cons x ps r ih1 ih2 => simp only [depth, size]; omega
theorem depth_take_step (f : Te) (j : Nat) (hj : j < f.len) : (f.take (j + 1)).depth = max (f.take j).depth (1 + (f.at_ j).2.depth) := by
  rw [take_step f j hj, depth_app]
  simp [depth]
theorem depth_take_le (f : Te) (j : Nat) : (f.take j).depth ≤ f.depth := by
  induction f generalizing j with
  | nil => cases j <;> simp [take]
  | cons x ps r _ ih =>
    cases j with
    | zero => simp [take, depth]
    | succ j => have := ih j; simp only [take, depth]; omega
theorem top_len (f : Te) : f.top.length = f.len := by
  induction f with
  | nil => rfl
  | cons x ps r _ ih => simp [top, len, ih]
theorem pre_len (f : Te) : f.pre.length = f.size := by
  induction f with
  | nil => rfl
  | cons x ps r ih1 ih2 => simp [pre, size, ih1, ih2]; omega
theorem top_app (f g : Te) : (f.app g).top = f.top ++ g.top := by
  induction f with
  | nil => rfl
  | cons x ps r _ ih => simp [top, app, ih]
theorem pre_app (f g : Te) : (f.app g).pre = f.pre ++ g.pre := by
  induction f with
  | nil => rfl
  | cons x ps r _ ih => simp [pre, app, ih]
/-- What is left when the first one gave way to its parts. -/
theorem pre_next (x : Nd) (ps r : Te) : (cons x ps r).pre = (x, ps) :: (ps.app r).pre := by simp [pre, pre_app]
theorem pre_take_step (f : Te) (j : Nat) (hj : j < f.len) : (f.take (j + 1)).pre = (f.take j).pre ++ ((f.at_ j) :: (f.at_ j).2.pre) := by
  rw [take_step f j hj, pre_app]
  simp [pre]
theorem at_pre (f : Te) (j : Nat) (hj : j < f.len) : f.at_ j ∈ f.pre := by
  induction f generalizing j with
  | nil => simp [len] at hj
  | cons x ps r _ ih =>
    cases j with
    | zero => simp [at_, pre]
    | succ j => simp only [at_, pre, List.mem_cons, List.mem_append]; exact .inr (.inr (ih j (by simp [len] at hj; omega)))
theorem top_at (f : Te) (j : Nat) (hj : j < f.len) : f.top.take (j + 1) = f.top.take j ++ [f.at_ j] := by
  induction f generalizing j with
  | nil => simp [len] at hj
  | cons x ps r _ ih =>
    cases j with
    | zero => simp [top, at_]
    | succ j => simp only [top, at_, List.take_succ_cons, List.cons_append]; rw [ih j (by simp [len] at hj; omega)]
/-- The last one. -/
theorem last (F : Te) (q : Nat) (h : F.len = q + 1) : ∃ (F' : Te) (x : Nd) (ps : Te), F = F'.app (.cons x ps .nil) ∧ F'.len = q := by
  induction F generalizing q with
  | nil => simp [len] at h
  | cons x ps r _ ih =>
    cases r with
    | nil => exact ⟨.nil, x, ps, rfl, by simp [len] at h ⊢; omega⟩
    | cons x' ps' r' =>
      cases q with
      | zero => simp [len] at h
      | succ q =>
        obtain ⟨F', c, d, h1, h2⟩ := ih q (by simp [len] at h ⊢; omega)
        exact ⟨.cons x ps F', c, d, by rw [h1]; rfl, by simp [len, h2]⟩
end Te
end Go.Proofs.Ytfoangiphbmipaa
