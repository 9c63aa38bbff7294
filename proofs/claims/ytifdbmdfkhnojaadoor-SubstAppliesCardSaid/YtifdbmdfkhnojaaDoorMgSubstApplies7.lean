/- Texts of one proof, one behind the other. -/
import Derived.Test.YtifdbmdfkhnojaaDoorMgSubstApplies1
import Derived.Deep.RegionWith
import Derived.Test.YtifdbmdfkhnojaaDoorMgSubstApplies6
import Derived.Test.YtifdbmdfkhnojaaDoorMgSubstApplies3
import Derived.Shelf.Strings.BuilderK
import Derived.Test.YtifdbmdfkhnojaaDoorProg
/- The answer's Same. -/
namespace Go.Proofs.YtifdbmdfkhnojaaDoor
open Go.RowKit

namespace Fo
/-- Are two lists of types the same? -/
def same : Fo → Fo → Bool
  | nil, nil => true
  | cons k n _ ps r, cons k' n' _ ps' r' => k == k' && n == n' && ps.same ps' && r.same r'
  | _, _ => false
/-- Are two types the same? -/
def same1 (x y : Int × Int × Sl × Fo) : Bool := x.1 == y.1 && x.2.1 == y.2.1 && x.2.2.2.same y.2.2.2
theorem same_len (f g : Fo) (h : f.same g = true) : f.len = g.len := by
  induction f generalizing g with
  | nil => cases g <;> simp [same] at h ⊢
  | cons k n u ps r _ ih =>
    cases g with
    | nil => simp [same] at h
    | cons k' n' u' ps' r' =>
      simp only [same, Bool.and_eq_true] at h
      simp [len, ih r' h.2]
theorem same_split (f g : Fo) (j : Nat) (h : f.len = g.len) (hj : j < f.len) : f.same g = ((f.take j).same (g.take j) && (same1 (f.at_ j) (g.at_ j) && (f.drop (j + 1)).same (g.drop (j + 1)))) := by
  induction f generalizing g j with
  | nil => simp [len] at hj
  | cons k n u ps r _ ih =>
    cases g with
    | nil => simp [len] at h
    | cons k' n' u' ps' r' =>
      cases j with
      | zero => simp [same, take, at_, drop, same1]
      | succ j =>
        have := ih r' j (by simpa [len] using h) (by simpa [len] using hj)
        simp only [same, take, at_, drop]
        rw [this]
        simp [Bool.and_assoc]
theorem same_take (f g : Fo) (j : Nat) (h : f.len = g.len) (hj : j < f.len) : (f.take (j + 1)).same (g.take (j + 1)) = ((f.take j).same (g.take j) && same1 (f.at_ j) (g.at_ j)) := by
  induction f generalizing g j with
  | nil => simp [len] at hj
  | cons k n u ps r _ ih =>
    cases g with
    | nil => simp [len] at h
    | cons k' n' u' ps' r' =>
      cases j with
      | zero => simp [same, take, at_, same1]
      | succ j =>
        have := ih r' j (by simpa [len] using h) (by simpa [len] using hj)
        simp only [same, take, at_] at this ⊢
        rw [this]
        simp [Bool.and_assoc]
end Fo
set_option maxHeartbeats 2000000 in
set_option maxRecDepth 100000 in
theorem rsame_any (m : Nat) : ∀ (f g : Fo) (k n k' n' : Int) (v v' : Value) (w : World), f.size < m → f.size ≤ 1000000 → g.size ≤ 1000000 → TyV w.heap.size w f v → TyV w.heap.size w g v' →
    Calls Tryd.prog 12 #[tyVal k n v, tyVal k' n' v'] w fun e w' => e = .returned (.bool (k == k' && n == n' && f.same g)) ∧ Below w.heap.size w w' := by
  induction m with
  | zero => intro f g k n k' n' v v' w h; omega
  | succ m ih =>
    intro f g k n k' n' v v' w hm hs hs' h h'
    obtain ⟨A, c, rfl⟩ := h.slice
    obtain ⟨A', c', rfl⟩ := h'.slice
    have H := Lib.hid h
    have H' := Lib.hid h'
    have IH := Lib.hid ih
    have hll := f.len_le_size
    have hll' := g.len_le_size
    clear h ih h'
    unfold tyVal
    go_enter Tryd.func12, Tryd.ntmps12
    have HB0 := Lib.hid (show ∀ (cs cs' : Array Value) (t t' : TypeId), Below w.heap.size w ((w.alloc (Obj.cells cs t)).alloc (Obj.cells cs' t')) from fun cs cs' t t' => ((Below.refl _ w).alloc (Nat.le_refl _) _).alloc (by simp) _)
    obtain ⟨q, hq⟩ : ∃ q, f.len = q := ⟨_, rfl⟩
    obtain ⟨q', hq'⟩ : ∃ q', g.len = q' := ⟨_, rfl⟩
    rw [hq] at hll ⊢
    rw [hq'] at hll' ⊢
    have HQ := Lib.hid hq
    have HQ' := Lib.hid hq'
    clear hq hq'
    by_cases h1 : k = k'
    case neg =>
      have f1 : (k != k') = true := bne_iff_ne.2 h1
      go_wp2_with fail
      go_ret
      exact ⟨ret_bool (by rw [beq_eq_false_iff_ne.2 h1]; rfl), HB0.out _ _ _ _⟩
    have f1 : (k != k') = false := by rw [h1]; simp
    by_cases h2 : n = n'
    case neg =>
      have f2 : (n != n') = true := bne_iff_ne.2 h2
      go_wp2_with fail
      go_ret
      exact ⟨ret_bool (by rw [beq_eq_false_iff_ne.2 h2]; simp), HB0.out _ _ _ _⟩
    have f2 : (n != n') = false := by rw [h2]; simp
    have hkn : (k == k' && n == n') = true := by rw [h1, h2]; simp
    have HKN := Lib.hid hkn
    clear hkn
    by_cases h3 : q = q'
    case neg =>
      have f3 : ((q : Int) != q') = true := bne_iff_ne.2 (by omega)
      have hsf : f.same g = false := by
        cases hb : f.same g with
        | false => rfl
        | true => exact absurd (f.same_len g hb) (by rw [HQ.out, HQ'.out]; exact h3)
      have HSF := Lib.hid hsf
      clear h1 h2 hsf
      go_wp2_with fail
      go_ret
      exact ⟨ret_bool (by rw [HKN.out, HSF.out]; rfl), HB0.out _ _ _ _⟩
    subst h3
    clear h1 h2
    have HFG := Lib.hid (show f.len = g.len by rw [HQ.out, HQ'.out])
    go_wp2_with fail
    go_loopw [5] (fun t5 wr => ∃ j : Nat, j ≤ q ∧ t5 = .int .i64 j ∧ (f.take j).same (g.take j) = true ∧ wr.cell? ⟨w.heap.size, 2, none⟩ = some (.slice A q c) ∧ wr.cell? ⟨w.heap.size + 1, 2, none⟩ = some (.slice A' q c') ∧ Below w.heap.size w wr ∧ w.heap.size + 2 ≤ wr.heap.size) (fun t _ => q - (intOf t).toNat)
    case atStart => exact ⟨0, Nat.zero_le _, rfl, by simp [Fo.take_zero, Fo.same], by go_simp, by go_simp, HB0.out _ _ _ _, by simp⟩
    case round =>
      obtain ⟨j, hj, rfl, hja, e2, e3, hb, hz⟩ := hrel
      have HB := Lib.hid hb
      have HJA := Lib.hid hja
      clear hja hb
      by_cases hjl : j < q
      · have hjf : j < f.len := by rw [HQ.out]; exact hjl
        have hjg : j < g.len := by rw [HQ'.out]; exact hjl
        obtain ⟨b, off, cap, hv, _, _, hlt, hC⟩ := H.out.form (by omega)
        injection hv with hA _ hcc
        subst hA; subst hcc
        obtain ⟨b', off', cap', hv', _, _, hlt', hC'⟩ := H'.out.form (by omega)
        injection hv' with hA' _ hcc'
        subst hA'; subst hcc'
        obtain ⟨d0, d1, d2, hch⟩ := tyC_at hC j hjf
        obtain ⟨d0', d1', d2', hch2⟩ := tyC_at hC' j hjg
        have c0 := (HB.out.cell (p := ⟨b, off + j * 3, none⟩) hlt).trans d0
        have c1 := (HB.out.cell (p := ⟨b, off + j * 3 + 1, none⟩) hlt).trans d1
        have c2 := (HB.out.cell (p := ⟨b, off + j * 3 + 2, none⟩) hlt).trans d2
        have c0' := (HB.out.cell (p := ⟨b', off' + j * 3, none⟩) hlt').trans d0'
        have c1' := (HB.out.cell (p := ⟨b', off' + j * 3 + 1, none⟩) hlt').trans d1'
        have c2' := (HB.out.cell (p := ⟨b', off' + j * 3 + 2, none⟩) hlt').trans d2'
        have hch' : TyV wr.heap.size wr (f.at_ j).2.2.2 (slv (f.at_ j).2.2.1) := hch.keep HB.out.size fun b off hb' => HB.out.cell (p := ⟨b, off, none⟩) hb'
        have hch3 : TyV wr.heap.size wr (g.at_ j).2.2.2 (slv (g.at_ j).2.2.1) := hch2.keep HB.out.size fun b off hb' => HB.out.cell (p := ⟨b, off, none⟩) hb'
        have hsz := f.at_size j hjf
        have hsz' := g.at_size j hjg
        have hsp := f.same_split g j HFG.out hjf
        have htk := f.same_take g j HFG.out hjf
        have hrec := IH.out (f.at_ j).2.2.2 (g.at_ j).2.2.2 (f.at_ j).1 (f.at_ j).2.1 (g.at_ j).1 (g.at_ j).2.1 (slv (f.at_ j).2.2.1) (slv (g.at_ j).2.2.1) wr.drew (by omega) (by omega) (by omega) (hch'.below (Below.refl _ wr).drew) (hch3.below (Below.refl _ wr).drew)
        clear d0 d1 d2 hC hch hch' hsz d0' d1' d2' hC' hch2 hch3 hsz'
        unfold tyVal at hrec
        generalize f.at_ j = p at *
        generalize g.at_ j = p' at *
        obtain ⟨pk, pn, pv, pf⟩ := p
        obtain ⟨pk', pn', pv', pf'⟩ := p'
        dsimp only [Fo.same1] at hsp htk hrec c0 c1 c2 c0' c1' c2'
        obtain ⟨x, hx⟩ : ∃ x, (pk == pk' && pn == pn' && pf.same pf') = x := ⟨_, rfl⟩
        rw [hx] at hrec hsp htk
        have HREC := Lib.hid hrec
        have HSP := Lib.hid (show f.same g = (x && (f.drop (j + 1)).same (g.drop (j + 1))) by rw [hsp, HJA.out]; rfl)
        have HTK := Lib.hid (show (f.take (j + 1)).same (g.take (j + 1)) = x by rw [htk, HJA.out]; rfl)
        clear hrec hsp htk hx hjf hjg
        go_wp2_with fail
        dsimp only [slv] at *
        go_region_with (go_at_call 12; refine HREC.out.mono ?_; rintro e w2 ⟨rfl, hb3⟩)
        all_goals
          have e2' := (hb3.cell (p := ⟨w.heap.size, 2, none⟩) (by show w.heap.size < wr.heap.size; omega)).trans e2
          have e3' := (hb3.cell (p := ⟨w.heap.size + 1, 2, none⟩) (by show w.heap.size + 1 < wr.heap.size; omega)).trans e3
          have HB3 := Lib.hid (show Below wr.heap.size wr w2 from (Below.refl _ wr).drew.trans hb3)
          clear hb3
          cases x
          · go_wp2_with fail
            go_ret
            exact ⟨ret_bool (by rw [HKN.out, HSP.out]; rfl), HB.out.trans (HB3.out.mono (by omega))⟩
          · go_wp2_with fail
            go_roundw
            case rel => exact ⟨j + 1, by omega, by go_num, HTK.out, e2', e3', HB.out.trans (HB3.out.mono (by omega)), Nat.le_trans hz HB3.out.size⟩
            case measure => simp [intOf]; omega
      · obtain rfl : j = q := by omega
        have HT : Hid (f.take j = f) := Lib.hid (by rw [← HQ.out]; exact f.take_len)
        have HT' : Hid (g.take j = g) := Lib.hid (by rw [← HQ'.out]; exact g.take_len)
        go_wp2_with fail
        go_ret
        exact ⟨ret_bool (by rw [HKN.out, ← HT.out, ← HT'.out, HJA.out]; rfl), HB.out⟩
end Go.Proofs.YtifdbmdfkhnojaaDoor
/- types.Copy, types.Shift. -/
namespace Go.Proofs.YtifdbmdfkhnojaaDoor
open Go.RowKit Go.Shelf

/-- A struct stored into a result's cell, and loaded. -/
theorem ret_cells {w : World} (g : Nat) (k n : Int) (u : Sl) (hg : w.heap[g]? = some (Obj.cells rt0 25)) :
    w.cell? ⟨g, 0, none⟩ = some (.int .i64 0) ∧ w.cell? ⟨g, 1, none⟩ = some (.int .i64 0) ∧ w.cell? ⟨g, 2, none⟩ = some (.slice none 0 0) ∧ w.frozen? ⟨g, 0, none⟩ = false ∧ w.frozen? ⟨g, 1, none⟩ = false ∧ w.frozen? ⟨g, 2, none⟩ = false ∧
    ∃ w', ((w.setCell ⟨g, 0, none⟩ (.int .i64 k)).setCell ⟨g, 1, none⟩ (.int .i64 n)).setCell ⟨g, 2, none⟩ (slv u) = w' ∧ (loadVar 25 ⟨g, 0, none⟩).run Tryd.prog w' = .ok (tyVal k n (slv u)) w' ∧ w'.heap.size = w.heap.size ∧ (∀ b, b ≠ g → w'.heap[b]? = w.heap[b]?) ∧ Below g w w' := by
  have r0 := cell_of_row w g 0 _ _ (0, 0) hg
  have r1 := cell_of_row w g 1 _ _ (0, 0) hg
  have r2 := cell_of_row w g 2 _ _ (0, 0) hg
  simp [rt0] at r0 r1 r2
  have e01 : (⟨g, 1, none⟩ : Addr) ≠ ⟨g, 0, none⟩ := by intro e; injection e with _ e; omega
  have e02 : (⟨g, 2, none⟩ : Addr) ≠ ⟨g, 0, none⟩ := by intro e; injection e with _ e; omega
  have e12 : (⟨g, 2, none⟩ : Addr) ≠ ⟨g, 1, none⟩ := by intro e; injection e with _ e; omega
  refine ⟨r0, r1, r2, frozen_cells hg 0, frozen_cells hg 1, frozen_cells hg 2, _, rfl, load_ty ?_ ?_ ?_, by simp [World.setCell], fun b hne => ?_, ?_⟩
  rotate_right
  · exact (((Below.refl g w).setCell (p := ⟨g, 0, none⟩) (Nat.le_refl g) _).setCell (p := ⟨g, 1, none⟩) (Nat.le_refl g) _).setCell (p := ⟨g, 2, none⟩) (Nat.le_refl g) _
  · rw [World.cell?_setCell_other _ _ _ _ e02, World.cell?_setCell_other _ _ _ _ e01, World.cell?_setCell_same _ _ _ r0]
  · rw [World.cell?_setCell_other _ _ _ _ e12]
    exact World.cell?_setCell_same _ _ _ ((World.cell?_setCell_other _ _ _ _ e01.symm).trans r1)
  · exact World.cell?_setCell_same _ _ _ ((World.cell?_setCell_other _ _ _ _ e12.symm).trans ((World.cell?_setCell_other _ _ _ _ e02.symm).trans r2))
  · rw [Below.heap_setCell _ _ _ _ (by simpa using hne), Below.heap_setCell _ _ _ _ (by simpa using hne), Below.heap_setCell _ _ _ _ (by simpa using hne)]
/-- A number as it is. -/
theorem copy1_any (m : Int) (W : World) : Calls Tryd.prog 62 (#[.int .i64 m] ++ #[]) W fun e W' => e = .returned (.int .i64 (idn m)) ∧ W' = W := by
  rw [Array.append_empty]
  go_enter Tryd.func62, Tryd.ntmps62
  go_wp2
  go_ret
  exact ⟨rfl, rfl⟩
theorem copy_any (w : World) (k n : Int) (u : Sl) (ps : Fo) (hps : TyV w.heap.size w ps (slv u)) (hs : ps.size < 1000000) :
    Calls Tryd.prog 47 #[tyVal k n (slv u)] w fun e w' => ∃ u' : Sl, e = .returned (tyVal k n (slv u')) ∧ Below w.heap.size w w' ∧ FreshT 25 w.heap.size w' idn ps u' := by
  obtain ⟨u1, u2, u3⟩ := u
  obtain ⟨w2, hw2⟩ : ∃ w2, (w.alloc (.cells #[.int .i64 k, .int .i64 n, .slice u1 u2 u3] 25)).alloc (.cells #[.int .i64 0, .int .i64 0, .slice none 0 0] 25) = w2 := ⟨_, rfl⟩
  have hs2 : w2.heap.size = w.heap.size + 1 + 1 := by rw [← hw2]; simp
  have hb2 : Below w.heap.size w w2 := by rw [← hw2]; exact ((Below.refl _ w).alloc (Nat.le_refl _) _).alloc (by simp) _
  have h0 : w2.heap[w.heap.size]? = some (.cells #[.int .i64 k, .int .i64 n, .slice u1 u2 u3] 25) := by
    rw [← hw2]; exact (Below.heap_alloc _ _ _ (by simp)).trans (heap_alloc_new w _)
  have h1 : w2.heap[w.heap.size + 1]? = some (.cells rt0 25) := by
    rw [← hw2]
    have := heap_alloc_new (w.alloc (.cells #[.int .i64 k, .int .i64 n, .slice u1 u2 u3] 25)) (.cells #[.int .i64 0, .int .i64 0, .slice none 0 0] 25)
    rwa [World.size_alloc] at this
  have c0 : w2.cell? ⟨w.heap.size, 0, none⟩ = some (.int .i64 k) := cell_of_row w2 w.heap.size 0 _ _ (0, 0) h0
  have c1 : w2.cell? ⟨w.heap.size, 1, none⟩ = some (.int .i64 n) := cell_of_row w2 w.heap.size 1 _ _ (0, 0) h0
  have c2 : w2.cell? ⟨w.heap.size, 2, none⟩ = some (.slice u1 u2 u3) := cell_of_row w2 w.heap.size 2 _ _ (0, 0) h0
  have hc := change_any idn 62 #[] (enters_of Tryd.func62 (by kernel_rfl) rfl) w2 k n (u1, u2, u3) ps ((hps.below hb2).keep hb2.size fun _ _ _ => rfl) hs (fun m W _ => copy1_any m W)
  rw [nm_id] at hc
  have HC := Lib.hid hc
  have HB := Lib.hid hb2
  have H1 := Lib.hid h1
  clear hps hc hb2 h0 h1
  dsimp only [tyVal, slv] at HC ⊢
  go_enter Tryd.func47, Tryd.ntmps47
  go_wp2_with fail
  refine HC.out.mono ?_
  rintro e w3 ⟨u', rfl, hb3, hf⟩
  obtain ⟨r0, r1, r2, z0, z1, z2, w4, hw4, hld, hsz, hfar, hbl⟩ := ret_cells (w := w3) (w.heap.size + 1) k n u' ((hb3.block _ (by omega)).trans H1.out)
  have HL := Lib.hid hld
  have HF := Lib.hid hf
  have HFR := Lib.hid hfar
  obtain ⟨u1', u2', u3'⟩ := u'
  dsimp only [tyVal, slv] at hw4 ⊢
  clear hld hf hfar
  go_wp2_with fail
  refine bodyPost_ret (results_box rfl _ _ _ _ rfl HL.out) rfl ?_
  have hb4 : Below w.heap.size w w4 := (HB.out.trans (hb3.mono (by omega))).trans (hbl.mono (by omega))
  refine ⟨(u1', u2', u3'), rfl, hb4, FreshT.mono (HF.out.to (by omega) fun b cs hb hc => (HFR.out b (by omega)).trans hc) (by omega)⟩
/-- What Shift makes of a number. -/
def shn (fr to by_ : Int) (n : Int) : Int :=
  let s := wrap64 (n + by_)
  if (decide (0 ≤ n) && decide (n < 1073741824)) && decide (fr ≤ n) && decide (n < to) && (decide (0 ≤ s) && decide (s < 1073741824)) then s else n
end Go.Proofs.YtifdbmdfkhnojaaDoor
/- A range over a function of which it is known what may come next. Nothing here speaks of the program. -/
namespace Go.Proofs.YtifdbmdfkhnojaaDoor
open Go.RowKit
variable {n : Nat} {P : Program}

/-- The iterator's contract. -/
def SeqG {α : Type} (n : Nat) (P : Program) (g : Nat) (lb : Array Value) (t : TypeId) (encs : α → Array Value) (Kp : World → World → Prop) (S Sp : List α → Prop) (G : List α → α → Prop) (w : World) : Prop :=
  ∀ (l : Nat) (J Jx : List α → World → Prop) (W : World), Below w.heap.size w W → AbC W.heap.size t J → AbC W.heap.size t Jx →
    (∀ pre x W1, J pre W1 → G pre x → YieldAt Fence.wide (n - 1) P l (encs x) W1 fun e W' =>
      (e = .returned (.bool true) ∧ J (pre ++ [x]) W' ∧ Kp W1 W') ∨ (e = .returned (.bool false) ∧ Jx (pre ++ [x]) W')) → J [] W →
    CallsIn Fence.wide n P g (#[.func (.yield l) #[] #[]] ++ lb) W fun e W' => (∃ v, e = .returned v) ∧ ((∃ xs, S xs ∧ J xs W') ∨ (∃ pre, Sp pre ∧ Jx pre W'))
/-- The statement. -/
theorem wpIn_rangeG {α : Type} {g : Operand} {ps : Array Tmp} {assign body : Code} {Q : Exit → Act → World → Prop} {a : Act} {w : World}
    (h1 : 1 ≤ n) {gf : Nat} {lb : Array Value} (hg : a.eval g = .func (.func gf) #[] lb) (eg : ∀ args w, (callFunc gf args).run P w = .ok (.enter gf args) w)
    {t : TypeId} {encs : α → Array Value} {Kp : World → World → Prop} {S Sp : List α → Prop} {G : List α → α → Prop} {w0 : World} (hseq : SeqG (n - 1) P gf lb t encs Kp S Sp G w0) (hb0 : Below w0.heap.size w0 w)
    (hKt : ∀ {A B C : World}, Kp A B → Kp B C → Kp A C) (hKb : ∀ (W : World) (l : Nat) (o o' : Obj), w.heap.size ≤ l → W.heap[l]? = some o → o.isCells = false → o.isWalk = false → Kp W (W.putObj l o')) (hps : ∀ x, (encs x).size = ps.size)
    (I : List α → World → Prop) (Ix : Code → List α → World → Prop) (hI : OwnFrom w.heap.size I) (hIx : ∀ c, OwnFrom w.heap.size (Ix c)) (hIc : AbC w.heap.size t I) (hIxc : ∀ c, AbC w.heap.size t (Ix c)) (h0 : I [] w)
    (Ax : α → Act → World → Prop) (hAx : ∀ x a', OwnFrom w.heap.size (fun (_ : Unit) W => Ax x a' W))
    (hassign : ∀ (l : Nat) (pre : List α) (x : α) (W : World) (K : Act → World → Prop), I pre W → (∀ a' W', KeepsFrom w.heap.size W W' → Kp W W' → I pre W' → Ax x a' W' → K a' W') →
      assign.wpIn (Fence.wide.inRound l) (n - 1 - 1) P (Exit.then K (fun _ _ _ => False)) { tmps := (ps.zip (encs x)).foldl (fun t (p, v) => t.setIfInBounds p v) a.tmps, defers := [] } W)
    (hbody : ∀ (l : Nat) (pre : List α) (x : α) (a' : Act) (W : World), w.heap.size ≤ l → I pre W → Ax x a' W → G pre x → body.wpIn (Fence.wide.inRound l) (n - 1 - 1) P (ownPostG w.heap.size Kp I Ix (pre ++ [x]) W) a' W)
    (hdone : ∀ (D : Nat) (xs : List α) (W : World), w.heap.size ≤ D → S xs → I xs W → W.heap[D]? = some (.deferred (some [])) → Q .normal { a with defers := { target := .collected D, args := #[] } :: a.defers } W)
    (hstop : ∀ (D : Nat) (c : Code) (pre : List α) (W : World), w.heap.size ≤ D → Sp pre → Ix c pre W → W.heap[D]? = some (.deferred (some [])) → c.wpIn Fence.wide n P Q { a with defers := { target := .collected D, args := #[] } :: a.defers } W) :
    (Code.rangeFunc g ps assign body).wpIn Fence.wide n P Q a w := by
  refine wpIn_rangeFunc fun fn hfn => ?_
  obtain ⟨R, hR⟩ : ∃ R : LoopState → Option Code → Loop, R = fun st pe => { state := st, pending := pe, fn, tmps := a.tmps, params := ps, assign, body, defers := w.heap.size } := ⟨_, rfl⟩
  obtain ⟨W1, hW1⟩ : ∃ W1, (w.alloc (.deferred (some []))).alloc (.loop (R .ready none)) = W1 := ⟨_, rfl⟩
  have hL1 : Laid w (R .ready none) W1 := by rw [← hW1]; exact Laid.new w _
  have hI1 : I [] W1 := by rw [← hW1]; exact hI.alloc _ (hI.alloc _ h0)
  have hs1 : W1.heap.size = w.heap.size + 2 := by rw [← hW1]; simp
  have hb1 : Below w0.heap.size w0 W1 := by
    rw [← hW1]; exact hb0.trans ((((Below.refl _ w).alloc (Nat.le_refl _) _).alloc (by simp) _).mono hb0.size)
  -- the caller's word, put where a round's record stands
  have put : ∀ {r : Loop} (r' : Loop) {W : World}, Laid w r W → Kp W (W.putObj (w.heap.size + 1) (.loop r')) := fun r' W h => hKb _ _ _ _ (by omega) h.1 rfl rfl
  have wide : ∀ {W W' : World}, CStep W1.heap.size t W W' → CStep w.heap.size t W W' := fun h => h.mono (by omega)
  refine ⟨w.heap.size + 1, [{ target := .collected w.heap.size, args := #[] }], W1, { target := .fn (.func gf) lb, args := #[.func (.yield (w.heap.size + 1)) #[] #[]] }, W1, gf, #[.func (.yield (w.heap.size + 1)) #[] #[]] ++ lb, W1, ?_, ?_, ?_, ?_, fun _ => h1, ?_⟩
  · rw [← hW1, hR]; exact run_enterLoop_outer _ _ _ _ _
  · simp only [resolve, hg]; simp [go_sem]
  · exact fun _ _ => trivial
  · simp [invoke, go_sem, eg]
  refine (hseq (w.heap.size + 1) (fun pre W => I pre W ∧ Laid w (R .ready none) W) (fun pre W => ∃ c, Ix c pre W ∧ Laid w (R .done (some c)) W) W1 hb1
    (fun s X Y hs hc => ⟨hIc s X Y hs.1 (wide hc), hs.2.step hc⟩) (fun s X Y ⟨c, hs, hl⟩ hc => ⟨c, hIxc c s X Y hs (wide hc), hl.step hc⟩) ?_ ⟨hI1, hL1⟩).mono ?_
  · rintro pre x W ⟨hi, hl⟩ hlen
    have hy := run_yield (P := P) (args := encs x) hl.1 (by rw [hR]; exact hps x)
    rw [hR] at hy
    refine ⟨fn, _, assign, body, hy, roundIn_of_wpIn hfn (hassign _ pre x W _ hi ?_)⟩
    clear hy
    intro a' X hkX hpX hiX hax
    have hlX := hl.from hkX
    refine ⟨_, run_beginRound hlX.1 (by rw [hR]), ?_⟩
    have hlB := hlX.put { R .ready none with state := .busy }
    have hiB := hI.putObj (.loop { R .ready none with state := .busy }) hiX (by omega) hlX.1 rfl
    have haB := (hAx x a').putObj (s := ()) (.loop { R .ready none with state := .busy }) hax (by omega) hlX.1 rfl
    have hpB := hKt hpX (put { R .ready none with state := .busy } hlX)
    refine wpIn_mono (hbody _ pre x a' _ (by omega) hiB haB hlen) ?_
    have stop : ∀ (c : Code) (W3 : World), KeepsFrom w.heap.size (X.putObj (w.heap.size + 1) (.loop { R .ready none with state := .busy })) W3 → Ix c (pre ++ [x]) W3 →
        ∃ v w', (Instr.endRound (w.heap.size + 1) (some c)).run P W3 = .ok v w' ∧ (((.returned v : Ending) = .returned (.bool true) ∧ (I (pre ++ [x]) w' ∧ Laid w (R .ready none) w') ∧ Kp W w') ∨ ((.returned v : Ending) = .returned (.bool false) ∧ ∃ c, Ix c (pre ++ [x]) w' ∧ Laid w (R .done (some c)) w')) := by
      intro c W3 hk3 hi3
      have hl3 := hlB.from hk3
      have he := run_endRound (P := P) (some c) hl3.1
      refine ⟨_, _, he, .inr ⟨rfl, c, (hIx c).putObj _ hi3 (by omega) hl3.1 rfl, ?_⟩⟩
      have := hl3.put (R .done (some c))
      rw [hR] at this ⊢
      exact this
    rintro e a3 W3 hp
    cases e with
    | normal =>
      obtain ⟨hk3, hp3, hi3⟩ := hp
      have hl3 := hlB.from hk3
      have he := run_endRound (P := P) none hl3.1
      refine ⟨_, _, he, .inl ⟨rfl, ⟨hI.putObj _ hi3 (by omega) hl3.1 rfl, ?_⟩, hKt (hKt hpB hp3) (put _ hl3)⟩⟩
      have := hl3.put (R .ready none)
      rw [hR] at this ⊢
      exact this
    | ret => exact stop .ret W3 hp.1 hp.2
    | exit id => exact stop (.exit id) W3 hp.1 hp.2
    | goto t => exact stop (.goto t) W3 hp.1 hp.2
    | panic ch => exact hp.elim
    | outgrown => exact hp.elim
  · rintro e W2 ⟨⟨v, rfl⟩, (⟨xs, hS, hi, hl⟩ | ⟨pre, hSp, c, hi, hl⟩)⟩
    · have he := run_endLoop (P := P) hl.1 (by rw [hR]; simp)
      rw [hR] at he
      exact ⟨none, _, he, hdone _ xs _ (Nat.le_refl _) hS (hI.putObj _ hi (by omega) hl.1 rfl) ((World.putObj_heap_other (by omega)).trans hl.2)⟩
    · have he := run_endLoop (P := P) hl.1 (by rw [hR]; simp)
      rw [hR] at he
      exact ⟨some c, _, he, hstop _ c pre _ (Nat.le_refl _) hSp ((hIx c).putObj _ hi (by omega) hl.1 rfl) ((World.putObj_heap_other (by omega)).trans hl.2)⟩
end Go.Proofs.YtifdbmdfkhnojaaDoor
/- (*strings.Builder).WriteString at this program, as the guide lays it. -/
namespace Go.Proofs
open Go.Shelf
def Tryd.lays166_ren : Go.Shelf.Ren := ⟨fun | 166 => 54 | 240 => 67 | 276 => 76 | n => n, fun | 0 => 0 | 3 => 3 | 4 => 4 | 5 => 5 | 9 => 9 | 20 => 20 | 37 => 80 | 70 => 79 | 72 => 82 | 75 => 87 | 80 => 94 | 164 => 121 | n => n, fun | n => n⟩
theorem Tryd.lays166 : Go.Proofs.Lays.n166 Tryd.prog Tryd.lays166_ren := {
  mixed := by kernel_rfl
  f166 := Tryd.func54.trans (congrArg some (by kernel_rfl))
  f240 := Tryd.func67.trans (congrArg some (by kernel_rfl))
  f276 := Tryd.func76.trans (congrArg some (by kernel_rfl))
  t0 := Tryd.underlying0
  a0 := Tryd.isAgg0
  z0 := Tryd.sizeOf0
  v0 := Tryd.zeroValue0
  t3 := Tryd.underlying3
  a3 := Tryd.isAgg3
  z3 := Tryd.sizeOf3
  v3 := Tryd.zeroValue3
  t4 := Tryd.underlying4
  a4 := Tryd.isAgg4
  z4 := Tryd.sizeOf4
  v4 := Tryd.zeroValue4
  t9 := Tryd.underlying9
  a9 := Tryd.isAgg9
  z9 := Tryd.sizeOf9
  v9 := Tryd.zeroValue9
  t20 := Tryd.underlying20
  a20 := Tryd.isAgg20
  z20 := Tryd.sizeOf20
  v20 := Tryd.zeroValue20
  t37 := Tryd.underlying80
  a37 := Tryd.isAgg80
  z37 := Tryd.sizeOf80
  v37 := Tryd.zeroValue80
  t70 := Tryd.underlying79
  a70 := Tryd.isAgg79
  z70 := Tryd.sizeOf79
  v70 := Tryd.zeroValue79
  t72 := Tryd.underlying82
  a72 := Tryd.isAgg82
  z72 := Tryd.sizeOf82
  v72 := Tryd.zeroValue82
  t75 := Tryd.underlying87
  a75 := Tryd.isAgg87
  z75 := Tryd.sizeOf87
  v75 := Tryd.zeroValue87
  t164 := Tryd.underlying121
  a164 := Tryd.isAgg121
  z164 := Tryd.sizeOf121
  v164 := Tryd.zeroValue121 }
theorem Tryd.Builder_Extra_166 : Builder.Extra Tryd.prog Tryd.lays166_ren := {
  sizeBuilder := by kernel_rfl
  liesBuilder := by kernel_rfl
  t5 := Tryd.underlying5
  a5 := Tryd.isAgg5
  z5 := Tryd.sizeOf5
  v5 := Tryd.zeroValue5
  infoByte := by kernel_rfl
  cellsByte := by kernel_rfl
  sizeByte := by kernel_rfl
  neB5 := by decide }
open Go.RowKit in
theorem Tryd.Builder_WriteString_k (B b : Nat) (bs : List Value) (s : ByteArray) (w : World) (h : Lib.IsBuilderF 82 5 B b bs w) (hlen : bs.length + s.size ≤ 140737488355328) (hBw : B ≤ w.heap.size) :
    Calls Tryd.prog 54 #[.pointer (some ⟨b, 0, none⟩), .string s] w fun e w' => e = .returned (.tuple #[.int .i64 s.size, .nilIface]) ∧ (Lib.BuilderAtF 82 5 B b (.pointer (some ⟨b, 0, none⟩)) (bs ++ Lib.strCells s) w' ∧ Below B w w' ∧ Lib.OthersKept 5 (some b) w w') := Any.Builder_WriteString_k Tryd.lays166 Tryd.Builder_Extra_166 B b bs s w h hlen hBw
end Go.Proofs
