/- Texts of one proof, one behind the other. -/
import Derived.Test.YtglmhdlkhnlkiaaMgTermApplies2
import Derived.Deep.RegionWith
/- The answer's Same. -/
namespace Go.Proofs.Ytglmhdlkhnlkiaa
open Go.RowKit

namespace Fo
/-- Are two lists of types the same? -/
def same : Fo → Fo → Bool
  | nil, nil => true
  | cons k n _ ps r, cons k' n' _ ps' r' => k == k' && n == n' && ps.same ps' && r.same r'
  | _, _ => false
/-- Are two types the same? -/
def same1 (x y : Int × Int × Sl × Fo) : Bool := x.1 == y.1 && x.2.1 == y.2.1 && x.2.2.2.same y.2.2.2
theorem same_len (f g : Fo) (h : f.same g = true) : f.len = g.len := by
  induction f generalizing g with
  | nil => cases g <;> simp [same] at h ⊢
  | cons k n u ps r _ ih =>
    cases g with
    | nil => simp [same] at h
    | cons k' n' u' ps' r' =>
      simp only [same, Bool.and_eq_true] at h
      simp [len, ih r' h.2]
theorem same_split (f g : Fo) (j : Nat) (h : f.len = g.len) (hj : j < f.len) : f.same g = ((f.take j).same (g.take j) && (same1 (f.at_ j) (g.at_ j) && (f.drop (j + 1)).same (g.drop (j + 1)))) := by
  induction f generalizing g j with
  | nil => simp [len] at hj
  | cons k n u ps r _ ih =>
    cases g with
    | nil => simp [len] at h
    | cons k' n' u' ps' r' =>
      cases j with
      | zero => simp [same, take, at_, drop, same1]
      | succ j =>
        have := ih r' j (by simpa [len] using h) (by simpa [len] using hj)
        simp only [same, take, at_, drop]
        rw [this]
        simp [Bool.and_assoc]
theorem same_take (f g : Fo) (j : Nat) (h : f.len = g.len) (hj : j < f.len) : (f.take (j + 1)).same (g.take (j + 1)) = ((f.take j).same (g.take j) && same1 (f.at_ j) (g.at_ j)) := by
  induction f generalizing g j with
  | nil => simp [len] at hj
  | cons k n u ps r _ ih =>
    cases g with
    | nil => simp [len] at h
    | cons k' n' u' ps' r' =>
      cases j with
      | zero => simp [same, take, at_, same1]
      | succ j =>
        have := ih r' j (by simpa [len] using h) (by simpa [len] using hj)
        simp only [same, take, at_] at this ⊢
        rw [this]
        simp [Bool.and_assoc]
end Fo
set_option maxHeartbeats 2000000 in
set_option maxRecDepth 100000 in
theorem rsame_any (m : Nat) : ∀ (f g : Fo) (k n k' n' : Int) (v v' : Value) (w : World), f.size < m → f.size ≤ 1000000 → g.size ≤ 1000000 → TyV w.heap.size w f v → TyV w.heap.size w g v' →
    Calls Try.prog 49 #[tyVal k n v, tyVal k' n' v'] w fun e w' => e = .returned (.bool (k == k' && n == n' && f.same g)) ∧ Below w.heap.size w w' := by
  induction m with
  | zero => intro f g k n k' n' v v' w h; omega
  | succ m ih =>
    intro f g k n k' n' v v' w hm hs hs' h h'
    obtain ⟨A, c, rfl⟩ := h.slice
    obtain ⟨A', c', rfl⟩ := h'.slice
    have H := Lib.hid h
    have H' := Lib.hid h'
    have IH := Lib.hid ih
    have hll := f.len_le_size
    have hll' := g.len_le_size
    clear h ih h'
    unfold tyVal
    go_enter Try.func49, Try.ntmps49
    have HB0 := Lib.hid (show ∀ (cs cs' : Array Value) (t t' : TypeId), Below w.heap.size w ((w.alloc (Obj.cells cs t)).alloc (Obj.cells cs' t')) from fun cs cs' t t' => ((Below.refl _ w).alloc (Nat.le_refl _) _).alloc (by simp) _)
    obtain ⟨q, hq⟩ : ∃ q, f.len = q := ⟨_, rfl⟩
    obtain ⟨q', hq'⟩ : ∃ q', g.len = q' := ⟨_, rfl⟩
    rw [hq] at hll ⊢
    rw [hq'] at hll' ⊢
    have HQ := Lib.hid hq
    have HQ' := Lib.hid hq'
    clear hq hq'
    by_cases h1 : k = k'
    case neg =>
      have f1 : (k != k') = true := bne_iff_ne.2 h1
      go_wp2_with fail
      go_ret
      exact ⟨ret_bool (by rw [beq_eq_false_iff_ne.2 h1]; rfl), HB0.out _ _ _ _⟩
    have f1 : (k != k') = false := by rw [h1]; simp
    by_cases h2 : n = n'
    case neg =>
      have f2 : (n != n') = true := bne_iff_ne.2 h2
      go_wp2_with fail
      go_ret
      exact ⟨ret_bool (by rw [beq_eq_false_iff_ne.2 h2]; simp), HB0.out _ _ _ _⟩
    have f2 : (n != n') = false := by rw [h2]; simp
    have hkn : (k == k' && n == n') = true := by rw [h1, h2]; simp
    have HKN := Lib.hid hkn
    clear hkn
    by_cases h3 : q = q'
    case neg =>
      have f3 : ((q : Int) != q') = true := bne_iff_ne.2 (by omega)
      have hsf : f.same g = false := by
        cases hb : f.same g with
        | false => rfl
        | true => exact absurd (f.same_len g hb) (by rw [HQ.out, HQ'.out]; exact h3)
      have HSF := Lib.hid hsf
      clear h1 h2 hsf
      go_wp2_with fail
      go_ret
      exact ⟨ret_bool (by rw [HKN.out, HSF.out]; rfl), HB0.out _ _ _ _⟩
    subst h3
    clear h1 h2
    have HFG := Lib.hid (show f.len = g.len by rw [HQ.out, HQ'.out])
    go_wp2_with fail
    go_loopw [5] (fun t5 wr => ∃ j : Nat, j ≤ q ∧ t5 = .int .i64 j ∧ (f.take j).same (g.take j) = true ∧ wr.cell? ⟨w.heap.size, 2, none⟩ = some (.slice A q c) ∧ wr.cell? ⟨w.heap.size + 1, 2, none⟩ = some (.slice A' q c') ∧ Below w.heap.size w wr ∧ w.heap.size + 2 ≤ wr.heap.size) (fun t _ => q - (intOf t).toNat)
    case atStart => exact ⟨0, Nat.zero_le _, rfl, by simp [Fo.take_zero, Fo.same], by go_simp, by go_simp, HB0.out _ _ _ _, by simp⟩
    case round =>
      obtain ⟨j, hj, rfl, hja, e2, e3, hb, hz⟩ := hrel
      have HB := Lib.hid hb
      have HJA := Lib.hid hja
      clear hja hb
      by_cases hjl : j < q
      · have hjf : j < f.len := by rw [HQ.out]; exact hjl
        have hjg : j < g.len := by rw [HQ'.out]; exact hjl
        obtain ⟨b, off, cap, hv, _, _, hlt, hC⟩ := H.out.form (by omega)
        injection hv with hA _ hcc
        subst hA; subst hcc
        obtain ⟨b', off', cap', hv', _, _, hlt', hC'⟩ := H'.out.form (by omega)
        injection hv' with hA' _ hcc'
        subst hA'; subst hcc'
        obtain ⟨d0, d1, d2, hch⟩ := tyC_at hC j hjf
        obtain ⟨d0', d1', d2', hch2⟩ := tyC_at hC' j hjg
        have c0 := (HB.out.cell (p := ⟨b, off + j * 3, none⟩) hlt).trans d0
        have c1 := (HB.out.cell (p := ⟨b, off + j * 3 + 1, none⟩) hlt).trans d1
        have c2 := (HB.out.cell (p := ⟨b, off + j * 3 + 2, none⟩) hlt).trans d2
        have c0' := (HB.out.cell (p := ⟨b', off' + j * 3, none⟩) hlt').trans d0'
        have c1' := (HB.out.cell (p := ⟨b', off' + j * 3 + 1, none⟩) hlt').trans d1'
        have c2' := (HB.out.cell (p := ⟨b', off' + j * 3 + 2, none⟩) hlt').trans d2'
        have hch' : TyV wr.heap.size wr (f.at_ j).2.2.2 (slv (f.at_ j).2.2.1) := hch.keep HB.out.size fun b off hb' => HB.out.cell (p := ⟨b, off, none⟩) hb'
        have hch3 : TyV wr.heap.size wr (g.at_ j).2.2.2 (slv (g.at_ j).2.2.1) := hch2.keep HB.out.size fun b off hb' => HB.out.cell (p := ⟨b, off, none⟩) hb'
        have hsz := f.at_size j hjf
        have hsz' := g.at_size j hjg
        have hsp := f.same_split g j HFG.out hjf
        have htk := f.same_take g j HFG.out hjf
        have hrec := IH.out (f.at_ j).2.2.2 (g.at_ j).2.2.2 (f.at_ j).1 (f.at_ j).2.1 (g.at_ j).1 (g.at_ j).2.1 (slv (f.at_ j).2.2.1) (slv (g.at_ j).2.2.1) wr.drew (by omega) (by omega) (by omega) (hch'.below (Below.refl _ wr).drew) (hch3.below (Below.refl _ wr).drew)
        clear d0 d1 d2 hC hch hch' hsz d0' d1' d2' hC' hch2 hch3 hsz'
        unfold tyVal at hrec
        generalize f.at_ j = p at *
        generalize g.at_ j = p' at *
        obtain ⟨pk, pn, pv, pf⟩ := p
        obtain ⟨pk', pn', pv', pf'⟩ := p'
        dsimp only [Fo.same1] at hsp htk hrec c0 c1 c2 c0' c1' c2'
        obtain ⟨x, hx⟩ : ∃ x, (pk == pk' && pn == pn' && pf.same pf') = x := ⟨_, rfl⟩
        rw [hx] at hrec hsp htk
        have HREC := Lib.hid hrec
        have HSP := Lib.hid (show f.same g = (x && (f.drop (j + 1)).same (g.drop (j + 1))) by rw [hsp, HJA.out]; rfl)
        have HTK := Lib.hid (show (f.take (j + 1)).same (g.take (j + 1)) = x by rw [htk, HJA.out]; rfl)
        clear hrec hsp htk hx hjf hjg
        go_wp2_with fail
        dsimp only [slv] at *
        go_region_with (go_at_call 49; refine HREC.out.mono ?_; rintro e w2 ⟨rfl, hb3⟩)
        all_goals
          have e2' := (hb3.cell (p := ⟨w.heap.size, 2, none⟩) (by show w.heap.size < wr.heap.size; omega)).trans e2
          have e3' := (hb3.cell (p := ⟨w.heap.size + 1, 2, none⟩) (by show w.heap.size + 1 < wr.heap.size; omega)).trans e3
          have HB3 := Lib.hid (show Below wr.heap.size wr w2 from (Below.refl _ wr).drew.trans hb3)
          clear hb3
          cases x
          · go_wp2_with fail
            go_ret
            exact ⟨ret_bool (by rw [HKN.out, HSP.out]; rfl), HB.out.trans (HB3.out.mono (by omega))⟩
          · go_wp2_with fail
            go_roundw
            case rel => exact ⟨j + 1, by omega, by go_num, HTK.out, e2', e3', HB.out.trans (HB3.out.mono (by omega)), Nat.le_trans hz HB3.out.size⟩
            case measure => simp [intOf]; omega
      · obtain rfl : j = q := by omega
        have HT : Hid (f.take j = f) := Lib.hid (by rw [← HQ.out]; exact f.take_len)
        have HT' : Hid (g.take j = g) := Lib.hid (by rw [← HQ'.out]; exact g.take_len)
        go_wp2_with fail
        go_ret
        exact ⟨ret_bool (by rw [HKN.out, ← HT.out, ← HT'.out, HJA.out]; rfl), HB.out⟩
end Go.Proofs.Ytglmhdlkhnlkiaa
