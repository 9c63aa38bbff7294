/- Texts of one proof, one behind the other. -/
import Derived.Test.YtglmhdlkhnlkiaaMgTermApplies5
import Derived.Test.YtglmhdlkhnlkiaaMgTermApplies15
import Derived.Test.YtglmhdlkhnlkiaaMgTermApplies11
import Derived.Test.YtglmhdlkhnlkiaaMgTermApplies2
import Derived.Test.YtglmhdlkhnlkiaaMgTermApplies7
/- types.rightAlone. -/
namespace Go.Proofs.Ytglmhdlkhnlkiaa
open Go.RowKit Go.Shelf

/-- Is one a type, its parts left aside? -/
def alone (k n : Int) (m : Nat) : Bool :=
  if k = 1 then decide (0 ≤ n) && decide (n < 1073741824) && ((m : Int) == 0)
  else if k = 2 ∨ k = 3 then (n == 0) && ((m : Int) == 0)
  else if k = 4 then (n == 0) && ((m : Int) == 2)
  else if k = 5 then (n == 0) && decide (2 ≤ (m : Int)) && decide ((m : Int) ≤ 8)
  else false
theorem number_any (n : Int) (w : World) : Calls Try.prog 74 #[.int .i64 n] w fun e w' => e = .returned (.bool (decide (0 ≤ n) && decide (n < 1073741824))) ∧ w' = w := by
  go_enter Try.func74, Try.ntmps74
  by_cases h : 0 ≤ n
  · have h2 : decide (0 ≤ n) = true := decide_eq_true h
    go_wp2
    go_ret
    exact ⟨by rw [h2]; rfl, rfl⟩
  · have h2 : decide (0 ≤ n) = false := decide_eq_false h
    go_wp2
    go_ret
    exact ⟨rfl, rfl⟩
set_option maxHeartbeats 1000000 in
theorem alone_any (k n : Int) (A : Option Addr) (m c : Nat) (w : World) : Calls Try.prog 67 #[tyVal k n (.slice A m c)] w fun e w' => e = .returned (.bool (alone k n m)) ∧ Below w.heap.size w w' := by
  dsimp only [tyVal]
  go_enter Try.func67, Try.ntmps67
  have HB := Lib.hid (show ∀ (cs : Array Value) (t : TypeId), Below w.heap.size w (w.alloc (Obj.cells cs t)) from fun cs t => (Below.refl _ w).alloc (Nat.le_refl _) _)
  by_cases h1 : k = 1
  · subst h1
    go_wp2_with fail
    refine (number_any n _).mono ?_
    rintro e w' ⟨rfl, rfl⟩
    obtain ⟨b, hb⟩ : ∃ b, (decide (0 ≤ n) && decide (n < 1073741824)) = b := ⟨_, rfl⟩
    rw [hb]
    have HN := Lib.hid hb
    clear hb
    cases b
    · go_wp2
      go_ret
      refine ⟨?_, HB.out _ _⟩
      simp [alone, HN.out]
    · go_wp2
      go_ret
      refine ⟨?_, HB.out _ _⟩
      simp [alone, HN.out]
  by_cases h2 : k = 2
  · subst h2
    obtain ⟨b, hb⟩ : ∃ b, (n == 0) = b := ⟨_, rfl⟩
    cases b
    · go_wp2
      go_ret
      refine ⟨?_, HB.out _ _⟩
      simp [alone, hb]
    · go_wp2
      go_ret
      refine ⟨?_, HB.out _ _⟩
      simp [alone, hb]
  by_cases h3 : k = 3
  · subst h3
    obtain ⟨b, hb⟩ : ∃ b, (n == 0) = b := ⟨_, rfl⟩
    cases b
    · go_wp2
      go_ret
      refine ⟨?_, HB.out _ _⟩
      simp [alone, hb]
    · go_wp2
      go_ret
      refine ⟨?_, HB.out _ _⟩
      simp [alone, hb]
  by_cases h4 : k = 4
  · subst h4
    obtain ⟨b, hb⟩ : ∃ b, (n == 0) = b := ⟨_, rfl⟩
    cases b
    · go_wp2
      go_ret
      refine ⟨?_, HB.out _ _⟩
      simp [alone, hb]
    · go_wp2
      go_ret
      refine ⟨?_, HB.out _ _⟩
      simp [alone, hb]
  by_cases h5 : k = 5
  · subst h5
    obtain ⟨b, hb⟩ : ∃ b, (n == 0) = b := ⟨_, rfl⟩
    obtain ⟨d, hd⟩ : ∃ d, decide (2 ≤ (m : Int)) = d := ⟨_, rfl⟩
    cases b
    · go_wp2
      go_ret
      refine ⟨?_, HB.out _ _⟩
      simp [alone, hb]
    cases d
    · go_wp2
      go_ret
      refine ⟨?_, HB.out _ _⟩
      simp [alone, hb, hd]
    · go_wp2
      go_ret
      refine ⟨?_, HB.out _ _⟩
      simp [alone, hb, hd]
  have f1 : (k == 1) = false := beq_eq_false_iff_ne.2 h1
  have f2 : (k == 2) = false := beq_eq_false_iff_ne.2 h2
  have f3 : (k == 3) = false := beq_eq_false_iff_ne.2 h3
  have f4 : (k == 4) = false := beq_eq_false_iff_ne.2 h4
  have f5 : (k == 5) = false := beq_eq_false_iff_ne.2 h5
  go_wp2
  go_ret
  refine ⟨?_, HB.out _ _⟩
  simp [alone, h1, h2, h3, h4, h5]
end Go.Proofs.Ytglmhdlkhnlkiaa
/- types.Copy, types.Shift. -/
namespace Go.Proofs.Ytglmhdlkhnlkiaa
open Go.RowKit Go.Shelf

/-- A struct stored into a result's cell, and loaded. -/
theorem ret_cells {w : World} (g : Nat) (k n : Int) (u : Sl) (hg : w.heap[g]? = some (Obj.cells rt0 24)) :
    w.cell? ⟨g, 0, none⟩ = some (.int .i64 0) ∧ w.cell? ⟨g, 1, none⟩ = some (.int .i64 0) ∧ w.cell? ⟨g, 2, none⟩ = some (.slice none 0 0) ∧ w.frozen? ⟨g, 0, none⟩ = false ∧ w.frozen? ⟨g, 1, none⟩ = false ∧ w.frozen? ⟨g, 2, none⟩ = false ∧
    ∃ w', ((w.setCell ⟨g, 0, none⟩ (.int .i64 k)).setCell ⟨g, 1, none⟩ (.int .i64 n)).setCell ⟨g, 2, none⟩ (slv u) = w' ∧ (loadVar 24 ⟨g, 0, none⟩).run Try.prog w' = .ok (tyVal k n (slv u)) w' ∧ w'.heap.size = w.heap.size ∧ (∀ b, b ≠ g → w'.heap[b]? = w.heap[b]?) ∧ Below g w w' := by
  have r0 := cell_of_row w g 0 _ _ (0, 0) hg
  have r1 := cell_of_row w g 1 _ _ (0, 0) hg
  have r2 := cell_of_row w g 2 _ _ (0, 0) hg
  simp [rt0] at r0 r1 r2
  have e01 : (⟨g, 1, none⟩ : Addr) ≠ ⟨g, 0, none⟩ := by intro e; injection e with _ e; omega
  have e02 : (⟨g, 2, none⟩ : Addr) ≠ ⟨g, 0, none⟩ := by intro e; injection e with _ e; omega
  have e12 : (⟨g, 2, none⟩ : Addr) ≠ ⟨g, 1, none⟩ := by intro e; injection e with _ e; omega
  refine ⟨r0, r1, r2, frozen_cells hg 0, frozen_cells hg 1, frozen_cells hg 2, _, rfl, load_ty ?_ ?_ ?_, by simp [World.setCell], fun b hne => ?_, ?_⟩
  rotate_right
  · exact (((Below.refl g w).setCell (p := ⟨g, 0, none⟩) (Nat.le_refl g) _).setCell (p := ⟨g, 1, none⟩) (Nat.le_refl g) _).setCell (p := ⟨g, 2, none⟩) (Nat.le_refl g) _
  · rw [World.cell?_setCell_other _ _ _ _ e02, World.cell?_setCell_other _ _ _ _ e01, World.cell?_setCell_same _ _ _ r0]
  · rw [World.cell?_setCell_other _ _ _ _ e12]
    exact World.cell?_setCell_same _ _ _ ((World.cell?_setCell_other _ _ _ _ e01.symm).trans r1)
  · exact World.cell?_setCell_same _ _ _ ((World.cell?_setCell_other _ _ _ _ e12.symm).trans ((World.cell?_setCell_other _ _ _ _ e02.symm).trans r2))
  · rw [Below.heap_setCell _ _ _ _ (by simpa using hne), Below.heap_setCell _ _ _ _ (by simpa using hne), Below.heap_setCell _ _ _ _ (by simpa using hne)]
/-- A number as it is. -/
theorem copy1_any (m : Int) (W : World) : Calls Try.prog 53 (#[.int .i64 m] ++ #[]) W fun e W' => e = .returned (.int .i64 (idn m)) ∧ W' = W := by
  rw [Array.append_empty]
  go_enter Try.func53, Try.ntmps53
  go_wp2
  go_ret
  exact ⟨rfl, rfl⟩
theorem copy_any (w : World) (k n : Int) (u : Sl) (ps : Fo) (hps : TyV w.heap.size w ps (slv u)) (hs : ps.size < 1000000) :
    Calls Try.prog 35 #[tyVal k n (slv u)] w fun e w' => ∃ u' : Sl, e = .returned (tyVal k n (slv u')) ∧ Below w.heap.size w w' ∧ FreshT 24 w.heap.size w' idn ps u' := by
  obtain ⟨u1, u2, u3⟩ := u
  obtain ⟨w2, hw2⟩ : ∃ w2, (w.alloc (.cells #[.int .i64 k, .int .i64 n, .slice u1 u2 u3] 24)).alloc (.cells #[.int .i64 0, .int .i64 0, .slice none 0 0] 24) = w2 := ⟨_, rfl⟩
  have hs2 : w2.heap.size = w.heap.size + 1 + 1 := by rw [← hw2]; simp
  have hb2 : Below w.heap.size w w2 := by rw [← hw2]; exact ((Below.refl _ w).alloc (Nat.le_refl _) _).alloc (by simp) _
  have h0 : w2.heap[w.heap.size]? = some (.cells #[.int .i64 k, .int .i64 n, .slice u1 u2 u3] 24) := by
    rw [← hw2]; exact (Below.heap_alloc _ _ _ (by simp)).trans (heap_alloc_new w _)
  have h1 : w2.heap[w.heap.size + 1]? = some (.cells rt0 24) := by
    rw [← hw2]
    have := heap_alloc_new (w.alloc (.cells #[.int .i64 k, .int .i64 n, .slice u1 u2 u3] 24)) (.cells #[.int .i64 0, .int .i64 0, .slice none 0 0] 24)
    rwa [World.size_alloc] at this
  have c0 : w2.cell? ⟨w.heap.size, 0, none⟩ = some (.int .i64 k) := cell_of_row w2 w.heap.size 0 _ _ (0, 0) h0
  have c1 : w2.cell? ⟨w.heap.size, 1, none⟩ = some (.int .i64 n) := cell_of_row w2 w.heap.size 1 _ _ (0, 0) h0
  have c2 : w2.cell? ⟨w.heap.size, 2, none⟩ = some (.slice u1 u2 u3) := cell_of_row w2 w.heap.size 2 _ _ (0, 0) h0
  have hc := change_any idn 53 #[] (enters_of Try.func53 (by kernel_rfl) rfl) w2 k n (u1, u2, u3) ps ((hps.below hb2).keep hb2.size fun _ _ _ => rfl) hs (fun m W _ => copy1_any m W)
  rw [nm_id] at hc
  have HC := Lib.hid hc
  have HB := Lib.hid hb2
  have H1 := Lib.hid h1
  clear hps hc hb2 h0 h1
  dsimp only [tyVal, slv] at HC ⊢
  go_enter Try.func35, Try.ntmps35
  go_wp2_with fail
  refine HC.out.mono ?_
  rintro e w3 ⟨u', rfl, hb3, hf⟩
  obtain ⟨r0, r1, r2, z0, z1, z2, w4, hw4, hld, hsz, hfar, hbl⟩ := ret_cells (w := w3) (w.heap.size + 1) k n u' ((hb3.block _ (by omega)).trans H1.out)
  have HL := Lib.hid hld
  have HF := Lib.hid hf
  have HFR := Lib.hid hfar
  obtain ⟨u1', u2', u3'⟩ := u'
  dsimp only [tyVal, slv] at hw4 ⊢
  clear hld hf hfar
  go_wp2_with fail
  refine bodyPost_ret (results_box rfl _ _ _ _ rfl HL.out) rfl ?_
  have hb4 : Below w.heap.size w w4 := (HB.out.trans (hb3.mono (by omega))).trans (hbl.mono (by omega))
  refine ⟨(u1', u2', u3'), rfl, hb4, FreshT.mono (HF.out.to (by omega) fun b cs hb hc => (HFR.out b (by omega)).trans hc) (by omega)⟩
/-- What Shift makes of a number. -/
def shn (fr tt by_ : Int) (n : Int) : Int :=
  let s := wrap64 (n + by_)
  if (decide (0 ≤ n) && decide (n < 1073741824)) && decide (fr ≤ n) && decide (n < tt) && (decide (0 ≤ s) && decide (s < 1073741824)) then s else n
end Go.Proofs.Ytglmhdlkhnlkiaa
/- slices.Backward at terms. -/
namespace Go.Proofs.Ytglmhdlkhnlkiaa
open Go.RowKit Go.Shelf
attribute [local go_sem] Oper.semAt_some

/-- A slice value that reads as these terms' cells, below block B. -/
def RdE (B : Nat) (w : World) (v : Value) (L : List Tm) : Prop :=
  ∃ A c, v = .slice A L.length c ∧ (0 < L.length → ∃ b off, A = some ⟨b, off, none⟩ ∧ b < B ∧ ∀ i (h : i < L.length), NdAt w b (off + i * 9) L[i].1)
theorem RdE.below {B : Nat} {w w' : World} {v : Value} {L : List Tm} (h : RdE B w v L) (hb : Below B w w') : RdE B w' v L := by
  obtain ⟨A, c, hv, h⟩ := h
  refine ⟨A, c, hv, fun hn => ?_⟩
  obtain ⟨b, off, hA, hlt, hc⟩ := h hn
  exact ⟨b, off, hA, hlt, fun i hi => (hc i hi).below hb hlt⟩
theorem RdE.mono {B C : Nat} {w : World} {v : Value} {L : List Tm} (h : RdE B w v L) (hC : B ≤ C) : RdE C w v L := by
  obtain ⟨A, c, hv, h⟩ := h
  refine ⟨A, c, hv, fun hn => ?_⟩
  obtain ⟨b, off, hA, hlt, hc⟩ := h hn
  exact ⟨b, off, hA, by omega, hc⟩
theorem teC_rd {B : Nat} {w : World} {f : Te} {b off : Nat} (h : TeC B w f b off) : ∀ i (hi : i < f.top.length), NdAt w b (off + i * 9) f.top[i].1 := by
  induction f generalizing off with
  | nil => intro i hi; simp [Te.top] at hi
  | cons x ps r _ ih =>
    obtain ⟨h1, _, _, h5⟩ := teC_cons.1 h
    intro i hi
    cases i with
    | zero => simpa [Te.top] using h1
    | succ i =>
      have := ih h5 i (by simpa [Te.top] using hi)
      rw [show off + (i + 1) * 9 = off + 9 + i * 9 by omega]
      simpa [Te.top] using this
theorem TeV.rd {B : Nat} {w : World} {f : Te} {v : Value} (h : TeV B w f v) : RdE B w v f.top := by
  cases f with
  | nil =>
    obtain ⟨A, c, rfl⟩ := teV_nil.1 h
    exact ⟨A, c, rfl, fun h => by simp [Te.top] at h⟩
  | cons x ps r =>
    obtain ⟨b, off, cap, rfl, _, _, hb, hc⟩ := teV_cons.1 h
    exact ⟨_, cap, by rw [Te.top_len]; rfl, fun _ => ⟨b, off, rfl, hb, teC_rd hc⟩⟩
set_option maxRecDepth 100000 in
set_option maxHeartbeats 2000000 in
/-- slices.Backward's closure: the last first, each with its place. -/
theorem eback1 (n : Nat) (hn : 1 ≤ n) (l Bs B : Nat) (A : Option Addr) (c : Nat) (L : List Tm) (hL : L.length ≤ 1000000) (J Jx : List (Int × Tm) → World → Prop)
    (hY : ∀ pre x W, J pre W → pre.length < L.length → YieldAt Fence.wide (n - 1) Try.prog l #[.int .i64 x.1, teVal x.2.1] W fun e W' =>
      (e = .returned (.bool true) ∧ J (pre ++ [x]) W' ∧ KpB B Bs W W') ∨ (e = .returned (.bool false) ∧ Jx (pre ++ [x]) W'))
    (W : World) (hBs : Boxed W Bs 25 (.slice A L.length c)) (hR : RdE B W (.slice A L.length c) L) (h0 : J [] W) :
    CallsIn Fence.wide n Try.prog 55 #[.func (.yield l) #[] #[], .pointer (some ⟨Bs, 0, none⟩)] W fun e W' => (∃ v, e = .returned v) ∧
      ((∃ ys : List (Int × Tm), ys.map (·.2) = L.reverse ∧ J ys W') ∨ (∃ pre, Jx pre W')) := by
  refine callsIn_of_wp Try.func55 rfl trivial ?_ rfl
  simp only [Try.ntmps55, List.size_toArray, List.length_cons, List.length_nil, Nat.reduceAdd, Nat.reduceSub, Array.replicate_succ, Array.replicate_zero, List.push_toArray, List.append_toArray, List.nil_append, List.cons_append]
  have e00 : W.cell? ⟨Bs, 0, none⟩ = some (.slice A L.length c) := hBs.cell
  have HBS := Lib.hid hBs
  clear hBs
  gi_wp2
  gi_loopw [3] (fun i wr => ∃ (k : Nat) (z : Int) (pre : List (Int × Tm)), k ≤ L.length ∧ i = .int .i64 z ∧ z + 1 = k ∧ pre.map (·.2) = (L.drop k).reverse ∧ J pre wr ∧ Below B W wr ∧ Boxed wr Bs 25 (.slice A L.length c))
    (fun i _ => (intOf i + 1).toNat)
  case atStart => exact ⟨L.length, _, [], Nat.le_refl _, rfl, by omega, by simp, h0, Below.refl _ _, HBS.out⟩
  case round =>
    obtain ⟨k, z, pre, hk, rfl, hz, hpre, hJs, hnx, hbx⟩ := hrel
    have e0 : wr.cell? ⟨Bs, 0, none⟩ = some (.slice A L.length c) := hbx.cell
    have HBX := Lib.hid hbx
    clear hbx
    by_cases hk0 : 1 ≤ k
    · obtain ⟨A', c', hv, hf⟩ := hR.below hnx
      injection hv with hv1 _ hv3
      subst hv1; subst hv3
      obtain ⟨b, off, rfl, hlt, hc⟩ := hf (by omega)
      obtain ⟨c0, c1, c2, c3, c4, c5, c6, c7, c8⟩ := hc (k - 1) (by omega)
      have hdrop : L.drop (k - 1) = L[k - 1] :: L.drop k := by
        have := List.drop_eq_getElem_cons (l := L) (i := k - 1) (by omega)
        rwa [show k - 1 + 1 = k by omega] at this
      have hpl : pre.length < L.length := by
        have : (pre.map (·.2)).length = pre.length := by simp
        rw [hpre] at this
        simp at this
        omega
      obtain ⟨x, hx⟩ : ∃ x, L[k - 1] = x := ⟨_, rfl⟩
      rw [hx] at c0 c1 c2 c3 c4 c5 c6 c7 c8 hdrop
      obtain ⟨⟨x0, x1, x2, x3, x4, x5, x6, x7, x8, x9⟩, x10⟩ := x
      dsimp only [slv] at c0 c1 c2 c3 c4 c5 c6 c7 c8
      obtain ⟨fn, tmps, assign, body, hy, hR2⟩ := hY pre (z, ⟨x0, x1, x2, x3, x4, x5, x6, x7, x8, x9⟩, x10) wr hJs hpl
      dsimp only [teVal, slv] at hy
      have f1 : (0 : Int) ≤ z := by omega
      have f2 : z < (L.length : Int) := by omega
      have f3 : z.toNat = k - 1 := by omega
      have f4 : decide ((0 : Int) ≤ z) = true := decide_eq_true f1
      have HZ := Lib.hid hz
      have HP := Lib.hid hpre
      have HD := Lib.hid hdrop
      clear hz hpre hdrop hx hc hf hpl
      gi_wp2
      refine hR2.mono ?_
      rintro e W3 (⟨rfl, hJ3, hk3⟩ | ⟨rfl, hJx3⟩)
      · gi_wp2
        go_roundw
        case rel => exact ⟨k - 1, z - 1, pre ++ [(z, ⟨x0, x1, x2, x3, x4, x5, x6, x7, x8, x9⟩, x10)], by omega, by go_num, by have := HZ.out; omega, by simp [HP.out, HD.out], hJ3, hnx.trans hk3.below, hk3.boxed HBX.out⟩
        case measure => simp [intOf]; omega
      · gi_wp2
        refine bodyPost_ret (results_none rfl _ _ _) rfl ?_
        exact ⟨⟨_, rfl⟩, .inr ⟨_, hJx3⟩⟩
    · obtain rfl : k = 0 := by omega
      have f1 : ¬ (0 : Int) ≤ z := by omega
      have f4 : decide ((0 : Int) ≤ z) = false := decide_eq_false f1
      have HP := Lib.hid hpre
      clear hz hpre
      gi_wp2
      go_end0
      exact ⟨⟨_, rfl⟩, .inl ⟨pre, by simpa using HP.out, hJs⟩⟩
set_option maxHeartbeats 1000000 in
/-- slices.Backward at types: the slice is boxed, the function that comes has the box. -/
theorem eback_make (A : Option Addr) (n c : Nat) (w : World) :
    Calls Try.prog 40 #[.slice A n c] w fun e w' => e = .returned (.func (.func 55) #[] #[.pointer (some ⟨w.heap.size, 0, none⟩)]) ∧ w' = w.alloc (.cells #[.slice A n c] 25) := by
  go_enter Try.func40, Try.ntmps40
  go_wp2
  go_ret
  exact ⟨rfl, rfl⟩
theorem eback_stops (n : Nat) (hn : 1 ≤ n) (Bs B : Nat) (A : Option Addr) (c : Nat) (L : List Tm) (hL : L.length ≤ 1000000) (w : World) (hBw : B ≤ w.heap.size) (hBs : Boxed w Bs 25 (.slice A L.length c)) (hR : RdE B w (.slice A L.length c) L) :
    SeqStopsK Fence.wide n Try.prog 55 #[.pointer (some ⟨Bs, 0, none⟩)] (fun x : Int × Tm => #[Value.int .i64 x.1, teVal x.2.1]) (KpB B Bs) (fun ys => ys.map (·.2) = L.reverse) (fun _ => True) L.length w := fun l J Jx W hW _ _ hY h0 => by
  have hbs : Boxed W Bs 25 (.slice A L.length c) := (hW.block Bs hBs.lt).trans hBs
  refine (eback1 n hn l Bs B A c L hL J Jx hY W hbs (hR.below (hW.mono hBw)) h0).mono ?_
  rintro e W' ⟨he, ⟨ys, hy, hj⟩ | ⟨pre, hj⟩⟩
  · exact ⟨he, .inl ⟨ys, hy, hj⟩⟩
  · exact ⟨he, .inr ⟨pre, trivial, hj⟩⟩
end Go.Proofs.Ytglmhdlkhnlkiaa
