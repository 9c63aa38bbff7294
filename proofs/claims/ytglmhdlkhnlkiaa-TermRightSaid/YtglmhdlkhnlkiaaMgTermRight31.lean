/- Texts of one proof, one behind the other. -/
import Derived.Test.YtglmhdlkhnlkiaaMgTermRight30
/- The answer's Right of terms: one, then part by part. -/
namespace Go.Proofs.Ytglmhdlkhnlkiaa
open Go.RowKit Go.Shelf
attribute [local go_sem] Oper.semAt_some

theorem snd_k (x : Nd) (f : Te) (w : World) (h : TmL w.heap.size w (x, f)) (hP : OkR x) : SndK x w (nmd x.k) (nameB (bs x.s)) (allAlone (Fo.cons x.tk x.tn x.tu x.ty .nil).pre) (x.tk == 0 && x.tn == 0 && x.ty.same .nil) (varsL [] (Fo.cons x.tk x.tn x.tu x.ty .nil).pre) := by
  have hl : x.tu.2.1 = x.ty.len := TyV.len h.1
  have e1 : allAlone (Fo.cons x.tk x.tn x.tu x.ty .nil).pre = (alone x.tk x.tn x.ty.len && allAlone x.ty.pre) := by
    rw [← hl]
    simp [Fo.pre, allAlone_cons]
  have e2 : varsL [] (Fo.cons x.tk x.tn x.tu x.ty .nil).pre = varsL [] ((x.tk, x.tn, ((none, 0, 0) : Sl)) :: x.ty.pre) := by
    rw [varsL_head x.tk x.tn (none, 0, 0) x.tu]
    simp [Fo.pre]
  have hs := hP.2.1
  refine ⟨fun w1 => named_any x.k w1, fun w1 => rName_any x.s w1 (by have := hP.1; unfold maxLen; omega), fun w1 hb => ?_, fun w1 hb => ?_, fun w1 hb => ?_⟩
  · rw [e1]
    exact rright_any (x.ty.size + 1) x.ty x.tk x.tn (slv x.tu) w1 (by omega) (by omega) (h.1.up hb hb.size)
  · rw [e2]
    exact rvars_any (x.ty.size + 1) x.ty x.tk x.tn (slv x.tu) w1 [] (.slice none 0 0) (by omega) (by simp; omega) (h.1.up hb hb.size) ⟨rfl, .inl ⟨rfl, none, 0, rfl⟩⟩
  · exact rsame_any (x.ty.size + 1) x.ty .nil x.tk x.tn 0 0 (slv x.tu) (.slice none 0 0) w1 (by omega) (by omega) (by simp [Fo.size]) (h.1.up hb hb.size) (tyV_nil.2 ⟨none, 0, rfl⟩)
theorem sound_any (x : Nd) (f : Te) (w : World) (h : TmL w.heap.size w (x, f)) (hP : OkR x) :
    Calls Try.prog 30 #[teVal x] w fun e w' => e = .returned (.bool (aloneE (x, f))) ∧ Below w.heap.size w w' := by
  have K := snd_k x f w h hP
  have hq : x.u.2.1 = f.len := by
    obtain ⟨A, c, hv⟩ := h.2.slice
    dsimp only at hv
    unfold slv at hv
    injection hv
  have fin : ∀ (A C : Bool), nmB x = A → tyB x = C → (A && (C && (nuB x && paB x f.len))) = aloneE (x, f) := by
    intro A C h1 h2
    unfold aloneE
    rw [h1, h2, Bool.and_left_comm C]
  by_cases h1 : x.k = 1
  · have hn : nmd x.k = true := by rw [h1]; rfl
    rw [hn] at K
    exact sound_1 x w f.len hq _ _ _ _ h1 K _ (fin _ _ (by unfold nmB; rw [hn]; rfl) (by unfold tyB; rw [h1]; rfl))
  by_cases h2 : x.k = 2
  · have hn : nmd x.k = false := by rw [h2]; rfl
    rw [hn] at K
    exact sound_2 x w f.len hq _ _ _ _ h2 K _ (fin _ _ (by unfold nmB; rw [hn]; rfl) (by unfold tyB; rw [h2]; rfl))
  by_cases h3 : x.k = 3
  · have hn : nmd x.k = false := by rw [h3]; rfl
    rw [hn] at K
    exact sound_3 x w f.len hq _ _ _ _ h3 K _ (fin _ _ (by unfold nmB; rw [hn]; rfl) (by unfold tyB; rw [h3]; rfl))
  by_cases h4 : x.k = 4
  · have hn : nmd x.k = true := by rw [h4]; rfl
    rw [hn] at K
    exact sound_4 x w f.len hq _ _ _ _ h4 K _ (fin _ _ (by unfold nmB; rw [hn]; rfl) (by unfold tyB; rw [h4]; rfl))
  by_cases h5 : x.k = 5
  · have hn : nmd x.k = false := by rw [h5]; rfl
    rw [hn] at K
    exact sound_5 x w f.len hq _ _ _ _ h5 K _ (fin _ _ (by unfold nmB; rw [hn]; rfl) (by unfold tyB; rw [h5]; rfl))
  by_cases h6 : x.k = 6
  · have hn : nmd x.k = true := by rw [h6]; rfl
    rw [hn] at K
    exact sound_6 x w f.len hq _ _ _ _ h6 K _ (fin _ _ (by unfold nmB; rw [hn]; rfl) (by unfold tyB; rw [h6]; rfl))
  by_cases h7 : x.k = 7
  · have hn : nmd x.k = true := by rw [h7]; rfl
    rw [hn] at K
    exact sound_7 x w f.len hq _ _ _ _ h7 K _ (fin _ _ (by unfold nmB; rw [hn]; rfl) (by unfold tyB; rw [h7]; rfl))
  by_cases h8 : x.k = 8
  · have hn : nmd x.k = false := by rw [h8]; rfl
    rw [hn] at K
    exact sound_8 x w f.len hq _ _ _ _ h8 K _ (fin _ _ (by unfold nmB; rw [hn]; rfl) (by unfold tyB; rw [h8]; rfl))
  by_cases h9 : x.k = 9
  · have hn : nmd x.k = false := by rw [h9]; rfl
    rw [hn] at K
    exact sound_9 x w f.len hq _ _ _ _ h9 K _ (fin _ _ (by unfold nmB; rw [hn]; rfl) (by unfold tyB; rw [h9]; rfl))
  by_cases h10 : x.k = 10
  · have hn : nmd x.k = false := by rw [h10]; rfl
    rw [hn] at K
    exact sound_10 x w f.len hq _ _ _ _ h10 K _ (fin _ _ (by unfold nmB; rw [hn]; rfl) (by unfold tyB; rw [h10]; rfl))
  have hn : nmd x.k = false := by unfold nmd; simp [h1, h4, h6, h7]
  rw [hn] at K
  exact sound_o x w f.len hq _ _ _ _ ⟨h1, h2, h3, h4, h5, h6, h7, h8, h9, h10⟩ K _ (fin _ _ (by unfold nmB; rw [hn]; rfl) (by unfold tyB; rw [if_neg (by simp [h10])]))
namespace Te
theorem all_split (p : Tm → Bool) (f : Te) (j : Nat) (hj : j < f.len) : f.pre.all p = ((f.take j).pre.all p && ((p (f.at_ j) && (f.at_ j).2.pre.all p) && (f.drop (j + 1)).pre.all p)) := by
  induction f generalizing j with
  | nil => simp [len] at hj
  | cons x ps r _ ih =>
    cases j with
    | zero => simp [take, at_, drop, pre, Bool.and_assoc]
    | succ j =>
      have := ih j (by simpa [len] using hj)
      simp only [take, at_, drop, pre, List.all_cons, List.all_append]
      rw [this]
      simp [Bool.and_assoc]
theorem all_takeB (p : Tm → Bool) (f : Te) (j : Nat) (hj : j < f.len) : (f.take (j + 1)).pre.all p = ((f.take j).pre.all p && (p (f.at_ j) && (f.at_ j).2.pre.all p)) := by
  rw [pre_take_step f j hj, List.all_append, List.all_cons]
end Te
set_option maxHeartbeats 2000000 in
set_option maxRecDepth 100000 in
theorem reright_any (m : Nat) : ∀ (f : Te) (x : Nd) (w : World), f.size < m → f.size < 1000000 → TmL w.heap.size w (x, f) → OkR x → f.all OkR →
    Calls Try.prog 10 #[teVal x] w fun e w' => e = .returned (.bool (aloneE (x, f) && f.pre.all aloneE)) ∧ Below w.heap.size w w' := by
  induction m with
  | zero => intro f x w h; omega
  | succ m ih =>
    intro f x w hm hs h hP hA
    obtain ⟨w0, hw0⟩ : ∃ w0, w.alloc (Obj.cells (ndC x).toArray 29) = w0 := ⟨_, rfl⟩
    have hb0 : Below w.heap.size w w0 := by rw [← hw0]; exact (Below.refl _ w).alloc (Nat.le_refl _) _
    have hs0 : w0.heap.size = w.heap.size + 1 := by rw [← hw0]; simp
    have hh0 : w0.heap[w.heap.size]? = some (Obj.cells (ndC x).toArray 29) := by rw [← hw0]; exact heap_alloc_new _ _
    have hsn := sound_any x f w0 (h.up hb0 hb0.size) hP
    obtain ⟨s, hsd⟩ : ∃ s, aloneE (x, f) = s := ⟨_, rfl⟩
    rw [hsd] at hsn ⊢
    rw [← hw0] at hsn
    obtain ⟨A, c, hv⟩ := h.2.slice
    have H := Lib.hid h.2
    have IH := Lib.hid ih
    have HAA := Lib.hid hA
    have hll := f.len_le_size
    obtain ⟨q, hq⟩ : ∃ q, f.len = q := ⟨_, rfl⟩
    rw [hq] at hv hll
    have HQ := Lib.hid hq
    have HW := Lib.hid (And.intro hw0 (And.intro hb0 (And.intro hs0 hh0)))
    obtain ⟨x0, x1, x2, x3, x4, ⟨xu1, xu2, xu3⟩, x6, ⟨xv1, xv2, xv3⟩, x8, x9⟩ := x
    dsimp only [slv, teVal, ndC] at hv hsn HW ⊢
    injection hv with e1 e2 e3
    subst e1; subst e2; subst e3
    have HSN := Lib.hid hsn
    clear h ih hq hsn hw0 hb0 hs0 hh0 hsd hP hA
    go_enter Try.func10, Try.ntmps10
    go_wp2_with fail
    refine HSN.out.mono ?_
    rintro e wg ⟨rfl, hbg⟩
    rw [HW.out.1] at hbg
    obtain ⟨_, hb0, hs0, hh0⟩ := HW.out
    have hhg := (hbg.block _ (Array.getElem?_eq_some_iff.1 hh0).1).trans hh0
    have k6 : wg.cell? ⟨w.heap.size, 6, none⟩ = some (.slice xv1 xv2 xv3) := cell_of_row wg _ 6 _ _ (0, 0) hhg
    have HBG := Lib.hid (show Below w.heap.size w wg from hb0.trans (hbg.mono hb0.size))
    have hzg : w.heap.size + 1 ≤ wg.heap.size := by have := hbg.size; omega
    clear hbg hb0 hs0 hh0 hhg
    cases s
    case' false =>
      go_wp2_with fail
      go_ret
      exact ⟨rfl, HBG.out⟩
    go_wp2_with fail
    go_loopw [3] (fun t3 wr => ∃ j : Nat, j ≤ xv2 ∧ t3 = .int .i64 j ∧ (f.take j).pre.all aloneE = true ∧ wr.cell? ⟨w.heap.size, 6, none⟩ = some (.slice xv1 xv2 xv3) ∧ Below w.heap.size w wr ∧ w.heap.size + 1 ≤ wr.heap.size) (fun t _ => xv2 - (intOf t).toNat)
    case atStart => exact ⟨0, Nat.zero_le _, rfl, by simp [Te.take_zero, Te.pre], k6, HBG.out, hzg⟩
    case round =>
      obtain ⟨j, hj, rfl, hja, e2, hb, hz⟩ := hrel
      have HB := Lib.hid hb
      have HJA := Lib.hid hja
      clear hja hb k6
      by_cases hjl : j < xv2
      · have hjf : j < f.len := by rw [HQ.out]; exact hjl
        obtain ⟨b, off, cap, hv, _, _, hlt, hC⟩ := H.out.form (by omega)
        dsimp only [slv] at hv
        injection hv with hA hmid hcc
        clear hmid
        subst hA; subst hcc
        obtain ⟨n1, hch⟩ := teC_at hC j hjf
        have m1 := NdAt.below (B := w.heap.size) n1 HB.out hlt
        have hsz := f.at_size j hjf
        have hsp := f.all_split aloneE j hjf
        have htk := f.all_takeB aloneE j hjf
        have ha1 := Te.all_at HAA.out j hjf
        have hrec := IH.out (f.at_ j).2 (f.at_ j).1 wr (by omega) (by omega) (hch.up HB.out HB.out.size) ha1.1 ha1.2
        clear n1 hC hch hsz ha1
        generalize f.at_ j = p at *
        obtain ⟨⟨z0, z1, z2, z3, z4, ⟨zu1, zu2, zu3⟩, z6, ⟨zv1, zv2, zv3⟩, z8, z9⟩, zp⟩ := p
        dsimp only [teVal, slv] at hrec hsp htk
        obtain ⟨X, hX⟩ : ∃ X, (aloneE (⟨z0, z1, z2, z3, z4, (zu1, zu2, zu3), z6, (zv1, zv2, zv3), z8, z9⟩, zp) && zp.pre.all aloneE) = X := ⟨_, rfl⟩
        rw [hX] at hrec hsp htk
        obtain ⟨c0, c1, c2, c3, c4, c5, c6, c7, c8⟩ := m1
        dsimp only [slv] at c5 c6
        have HREC := Lib.hid hrec
        have HSP := Lib.hid (show f.pre.all aloneE = (X && (f.drop (j + 1)).pre.all aloneE) by rw [hsp, HJA.out]; rfl)
        have HTK := Lib.hid (show (f.take (j + 1)).pre.all aloneE = X by rw [htk, HJA.out]; rfl)
        clear hrec hsp htk hX hjf
        go_wp2_with fail
        refine HREC.out.mono ?_
        rintro e w2 ⟨rfl, hb3⟩
        have e2' := (hb3.cell (p := ⟨w.heap.size, 6, none⟩) (by show w.heap.size < wr.heap.size; omega)).trans e2
        have HB3 := Lib.hid hb3
        clear hb3
        cases X
        case' false =>
          go_wp2_with fail
          go_ret
          exact ⟨ret_bool (by rw [HSP.out]; rfl), HB.out.trans (HB3.out.mono (by omega))⟩
        go_wp2_with fail
        go_roundw
        case rel => exact ⟨j + 1, by omega, by go_num, HTK.out, e2', HB.out.trans (HB3.out.mono (by omega)), Nat.le_trans hz HB3.out.size⟩
        case measure => simp [intOf]; omega
      · obtain rfl : j = xv2 := by omega
        have HT : Hid (f.take j = f) := Lib.hid (by rw [← HQ.out]; exact f.take_len)
        go_wp2_with fail
        go_ret
        exact ⟨ret_bool (by rw [← HT.out, HJA.out]; rfl), HB.out⟩
end Go.Proofs.Ytglmhdlkhnlkiaa
