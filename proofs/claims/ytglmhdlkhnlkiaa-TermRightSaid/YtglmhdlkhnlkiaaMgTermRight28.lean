/- Texts of one proof, one behind the other. -/
import Derived.Test.YtglmhdlkhnlkiaaMgTermRight6
import Derived.Test.YtglmhdlkhnlkiaaMgTermRight2
import Derived.Test.YtglmhdlkhnlkiaaMgTermRight8
import Derived.Test.YtglmhdlkhnlkiaaMgTermRight14
import Derived.Test.YtglmhdlkhnlkiaaMgTermRight11
import Derived.Test.YtglmhdlkhnlkiaaMgTermRight5
import Derived.Test.YtglmhdlkhnlkiaaMgTermRight21
/- The answer's Depth of terms. -/
namespace Go.Proofs.Ytglmhdlkhnlkiaa
open Go.RowKit

set_option maxHeartbeats 1000000 in
set_option maxRecDepth 100000 in
theorem redepth_any (m : Nat) : ∀ (f : Te) (x : Nd) (w : World), f.size < m → f.size ≤ 1000000 → TmL w.heap.size w (x, f) →
    Calls Try.prog 14 #[teVal x] w fun e w' => e = .returned (.int .i64 (1 + f.depth)) ∧ Below w.heap.size w w' := by
  induction m with
  | zero => intro f x w h; omega
  | succ m ih =>
    intro f x w hm hs h
    obtain ⟨A, c, hv⟩ := h.2.slice
    have H := Lib.hid h.2
    have IH := Lib.hid ih
    have hll := f.len_le_size
    obtain ⟨q, hq⟩ : ∃ q, f.len = q := ⟨_, rfl⟩
    rw [hq] at hv hll
    have HQ := Lib.hid hq
    obtain ⟨x0, x1, x2, x3, x4, ⟨xu1, xu2, xu3⟩, x6, ⟨xv1, xv2, xv3⟩, x8, x9⟩ := x
    dsimp only [slv, teVal] at hv ⊢
    injection hv with e1 e2 e3
    subst e1; subst e2; subst e3
    clear h ih hq
    go_enter Try.func14, Try.ntmps14
    go_wp2_with fail
    go_loopw [3, 4] (fun t3 t4 wr => ∃ j : Nat, j ≤ xv2 ∧ t4 = .int .i64 j ∧ t3 = .int .i64 (1 + (f.take j).depth) ∧ Below (w.heap.size + 1) (w.alloc (.cells #[.int .i64 x0, .string x1, .int .i64 x2, .int .i64 x3, .int .i64 x4, .slice xu1 xu2 xu3, .slice xv1 xv2 xv3, .int .i64 x8, .int .i64 x9] 29)) wr) (fun _ t _ => xv2 - (intOf t).toNat)
    case atStart => exact ⟨0, Nat.zero_le _, rfl, by simp [Te.take_zero, Te.depth], Below.refl _ _⟩
    case round =>
      obtain ⟨j, hj, rfl, rfl, hb⟩ := hrel
      have e2 : wr.cell? ⟨w.heap.size, 6, none⟩ = some (.slice xv1 xv2 xv3) := (hb.cell (p := ⟨w.heap.size, 6, none⟩) (by simp)).trans (cell_of_row _ _ 6 _ _ (0, 0) (heap_alloc_new w _))
      have HB : Hid (Below w.heap.size w wr) := Lib.hid (((Below.refl _ _).alloc (Nat.le_refl _) _).trans (hb.mono (by omega)))
      have hz := hb.size
      simp only [World.size_alloc] at hz
      by_cases hjl : j < xv2
      · have hjf : j < f.len := by rw [HQ.out]; exact hjl
        obtain ⟨b, off, cap, hv, _, _, hlt, hC⟩ := H.out.form (by omega)
        dsimp only [slv] at hv
        injection hv with hA hmid hcc
        clear hmid
        subst hA; subst hcc
        obtain ⟨n1, hch⟩ := teC_at hC j hjf
        have m1 := NdAt.below (B := w.heap.size) n1 HB.out hlt
        have hsz := f.at_size j hjf
        have hst := f.depth_take_step j hjf
        have hle := (f.at_ j).2.depth_le_size
        have hlf := Nat.le_trans (f.depth_take_le j) f.depth_le_size
        have hrec := IH.out (f.at_ j).2 (f.at_ j).1 wr (by omega) (by omega) (hch.up HB.out HB.out.size)
        clear n1 hC hch hjf
        generalize f.at_ j = p at *
        obtain ⟨⟨y0, y1, y2, y3, y4, ⟨yu1, yu2, yu3⟩, y6, ⟨yv1, yv2, yv3⟩, y8, y9⟩, pf⟩ := p
        dsimp only [teVal, slv] at hrec hst hsz hle
        obtain ⟨c0, c1, c2, c3, c4, c5, c6, c7, c8⟩ := m1
        dsimp only [slv] at c5 c6
        have HREC := Lib.hid hrec
        have HST := Lib.hid hst
        have hb1 : 0 ≤ (pf.depth : Int) ∧ (pf.depth : Int) ≤ 1000000 := by omega
        have hb2 : ((f.take j).depth : Int) ≤ 1000000 := by omega
        clear hrec hst
        go_wp2_with fail
        refine HREC.out.mono ?_
        rintro e w2 ⟨rfl, hb3⟩
        obtain ⟨dd, hdd⟩ : ∃ dd, (f.take j).depth = dd := ⟨_, rfl⟩
        obtain ⟨de, hde⟩ : ∃ de, pf.depth = de := ⟨_, rfl⟩
        rw [hdd] at hb2 ⊢
        rw [hde] at hb1 ⊢
        by_cases hgt : dd < de + 1
        · have hnew : (f.take (j + 1)).depth = 1 + de := by rw [HST.out]; omega
          have HN := Lib.hid hnew
          have f1 : decide ((1 : Int) + dd < 1 + de + 1) = true := decide_eq_true (by omega)
          clear hnew hdd hde
          go_wp2_with fail
          go_roundw
          case rel => exact ⟨j + 1, by omega, by go_num, by rw [HN.out]; congr 1; omega, hb.trans (hb3.mono hz)⟩
          case measure => simp [intOf]; omega
        · have hnew : (f.take (j + 1)).depth = dd := by rw [HST.out]; omega
          have HN := Lib.hid hnew
          have f1 : decide ((1 : Int) + dd < 1 + de + 1) = false := decide_eq_false (by omega)
          clear hnew hdd hde
          go_wp2_with fail
          go_roundw
          case rel => exact ⟨j + 1, by omega, by go_num, by rw [HN.out], hb.trans (hb3.mono hz)⟩
          case measure => simp [intOf]; omega
      · obtain rfl : j = xv2 := by omega
        have HT : Hid (f.take j = f) := Lib.hid (by rw [← HQ.out]; exact f.take_len)
        go_wp2_with fail
        go_ret
        exact ⟨ret_int (by rw [HT.out]), HB.out⟩
end Go.Proofs.Ytglmhdlkhnlkiaa
/- term.Depth. -/
namespace Go.Proofs.Ytglmhdlkhnlkiaa
open Go.RowKit
attribute [local go_sem ↓] builtin_app
namespace Te
/-- The parts of a list's terms, one behind the other. -/
def kids : Te → Te
  | nil => nil
  | cons _ ps r => ps.app r.kids
theorem kids_app (f g : Te) : (f.app g).kids = f.kids.app g.kids := by
  induction f with
  | nil => rfl
  | cons x ps r _ ih => simp [app, kids, ih, app_assoc]
theorem size_kids (f : Te) : f.size = f.len + f.kids.size := by
  induction f with
  | nil => rfl
  | cons x ps r _ ih => simp only [size, len, kids, size_app]; omega
theorem depth_kids (f : Te) : (f.len = 0 → f.depth = 0) ∧ (0 < f.len → f.depth = 1 + f.kids.depth) := by
  induction f with
  | nil => exact ⟨fun _ => rfl, fun h => absurd h (Nat.lt_irrefl 0)⟩
  | cons x ps r _ ih =>
    refine ⟨fun h => by simp [len] at h, fun _ => ?_⟩
    simp only [depth, kids, depth_app]
    rcases Nat.eq_zero_or_pos r.len with h0 | h0
    · have h1 := ih.1 h0
      have h2 : r.kids.depth = 0 := by
        cases r with
        | nil => rfl
        | cons => simp [len] at h0
      omega
    · have h1 := ih.2 h0
      omega
theorem kids_take (f : Te) (j : Nat) (hj : j < f.len) : (f.take (j + 1)).kids = (f.take j).kids.app (f.at_ j).2 := by
  rw [take_step f j hj, kids_app]
  simp [kids, app_nil]
/-- The cells of a list's terms. -/
def cells (f : Te) : List Value := f.top.flatMap fun t => ndC t.1
theorem cells_app (f g : Te) : (f.app g).cells = f.cells ++ g.cells := by simp [cells, top_app]
theorem cells_len (f : Te) : f.cells.length = f.len * 9 := by rw [cells, ndCs_len]; simp [top_len]
theorem cells_at (F : Te) (j : Nat) (hj : j < F.len) (i : Nat) (hi : i < 9) : F.cells[j * 9 + i]? = (ndC (F.at_ j).1)[i]? := by
  induction F generalizing j with
  | nil => simp [len] at hj
  | cons x ps r _ ih =>
    cases j with
    | zero => simp only [cells, top, List.flatMap_cons, at_, Nat.zero_mul, Nat.zero_add]; rw [List.getElem?_append_left (by rw [ndC_len]; exact hi)]
    | succ j =>
      have := ih j (by simp [len] at hj; omega)
      simp only [cells, top, List.flatMap_cons, at_]
      rw [List.getElem?_append_right (by rw [ndC_len]; omega), ndC_len, show (j + 1) * 9 + i - 9 = j * 9 + i by omega]
      exact this
theorem cells_one (f : Te) : ∀ u ∈ f.cells, u.oneCell' = true := flat9_one _
end Te
theorem TeL.kids {B : Nat} {w : World} {f : Te} (h : TeL B w f) : TeL B w f.kids := by
  induction f with
  | nil => trivial
  | cons _ ps r _ ih => exact (h.1.2.list).app (ih h.2)
theorem TeL.at {B : Nat} {w : World} {F : Te} (h : TeL B w F) (j : Nat) (hj : j < F.len) : TmL B w (F.at_ j) := by
  induction F generalizing j with
  | nil => simp [Te.len] at hj
  | cons x ps r _ ih =>
    cases j with
    | zero => exact h.1
    | succ j => exact ih h.2 j (by simp [Te.len] at hj; omega)
theorem NdAt.at_cells {w wo : World} {b off : Nat} {F : Te} (j : Nat) (hj : j < F.len) (hC : ∀ i u, F.cells[i]? = some u → w.cell? ⟨b, off + i, none⟩ = some u) : NdAt w b (off + j * 9) (F.at_ j).1 :=
  NdAt.of_cells fun i u hu => by
    have hi : i < 9 := (List.getElem?_eq_some_iff.1 hu).1
    rw [show off + j * 9 + i = off + (j * 9 + i) by omega]
    exact hC _ _ ((F.cells_at j hj i hi).trans hu)
/-- Between two levels. -/
def EDInv (w : World) (D N : Nat) (t3 t4 : Value) (wr : World) (s : Nat) : Prop :=
  ∃ (F : Te) (d : Nat), F.size = s ∧ t3 = .int .i64 d ∧ d + F.depth = D ∧ F.size ≤ N ∧ Rd wr 9 t4 F.len F.cells ∧ TeL w.heap.size wr F ∧ Below w.heap.size w wr
set_option maxHeartbeats 2000000 in
set_option maxRecDepth 100000 in
theorem edepth_any (w : World) (x : Nd) (ps : Te) (hps : TmL w.heap.size w (x, ps)) (hs : ps.size < 1000000) :
    Calls Try.prog 13 #[teVal x] w fun e w' => e = .returned (.int .i64 (1 + ps.depth)) ∧ Below w.heap.size w w' := by
  have hds := ps.depth_le_size
  have hinv : EDInv w (1 + ps.depth) 1000000 (.int .i64 0) (.slice (some ⟨w.heap.size + 1, 0, none⟩) 1 1) ((w.alloc (.cells (ndC x).toArray 29)).alloc (.cells (ndC x).toArray 29)) (1 + ps.size) := by
    have hb : Below w.heap.size w ((w.alloc (.cells (ndC x).toArray 29)).alloc (.cells (ndC x).toArray 29)) := ((Below.refl _ w).alloc (Nat.le_refl _) _).alloc (by simp) _
    refine ⟨.cons x ps .nil, 0, by simp [Te.size], rfl, by simp [Te.depth], by simp only [Te.size]; omega, ?_, ⟨hps.below hb, trivial⟩, hb⟩
    have := rd_new (w.alloc (.cells (ndC x).toArray 29)) (ndC x) 29 9 1 rfl (by unfold maxLen; omega)
    rw [World.size_alloc] at this
    simpa [Te.len, Te.top, Te.cells] using this
  obtain ⟨D, hD⟩ : ∃ D, 1 + ps.depth = D := ⟨_, rfl⟩
  have hDm : D ≤ 1000000 := by omega
  rw [hD] at hinv
  rw [show (1 : Int) + ps.depth = (D : Int) by omega]
  obtain ⟨x0, x1, x2, x3, x4, ⟨xu1, xu2, xu3⟩, x6, ⟨xv1, xv2, xv3⟩, x8, x9⟩ := x
  dsimp only [teVal, ndC, slv] at hinv ⊢
  have HI := Lib.hid hinv
  clear hps hinv hD hds hs
  go_enter Try.func13, Try.ntmps13
  go_wp2_with fail
  go_loopw [3, 4] (fun t3 t4 wr => ∃ s, EDInv w D 1000000 t3 t4 wr s) (fun t3 t4 wr => least (EDInv w D 1000000 t3 t4 wr))
  case atStart => exact ⟨_, HI.out⟩
  case round =>
    obtain ⟨s, hs⟩ := hrel
    obtain ⟨⟨F, d, hFs, rfl, hdD, hFN, hRd, hTL, hb⟩, _⟩ := least_of hs
    have HM := Lib.hid hFs
    clear hFs hs
    rcases Nat.eq_zero_or_pos F.len with h0 | h0
    · obtain ⟨A, c, rfl⟩ : ∃ A c, u4 = .slice A 0 c := by
        rcases hRd.2 with ⟨_, A, c, h⟩ | ⟨b, off, cap, h, _⟩
        · exact ⟨A, c, h⟩
        · exact ⟨_, cap, by rw [h, h0]⟩
      have hz := F.depth_kids.1 h0
      obtain rfl : d = D := by omega
      have HB := Lib.hid hb
      clear hRd h0 hb
      go_wp2_with fail
      go_ret
      exact ⟨rfl, HB.out⟩
    · have hk := F.depth_kids.2 h0
      have hsk := F.size_kids
      obtain ⟨b, off, cap, rfl, hc1, hc2, hlt, hC⟩ := hRd.2.resolve_left (by rintro ⟨h, _⟩; omega)
      obtain ⟨q, hq⟩ : ∃ q, F.len = q := ⟨_, rfl⟩
      rw [hq] at h0 HM ⊢
      have HQ := Lib.hid hq
      have HC := Lib.hid hC
      have HTL := Lib.hid hTL
      have HB := Lib.hid hb
      have HK := Lib.hid hk
      have hqm : q ≤ 1000000 := by have := F.len_le_size; omega
      clear hq hC hTL hb hRd
      generalize wr = wo at *
      go_wp2_with fail
      go_loopw [5, 17] (fun t5 t17 wr => ∃ j : Nat, j ≤ q ∧ t17 = .int .i64 j ∧ wr.ownsRow wo.heap.size 29 9 t5 (F.take j).kids.len (F.take j).kids.cells ∧ Below wo.heap.size wo wr) (fun _ t _ => q - (intOf t).toNat)
      case atStart => exact ⟨0, Nat.zero_le _, rfl, by rw [Te.take_zero]; exact ⟨rfl, .inl ⟨rfl, rfl⟩⟩, Below.refl _ _⟩
      case round =>
        obtain ⟨j, hj, rfl, hown, hbw⟩ := hrel
        by_cases hjl : j < q
        · have hjF : j < F.len := by rw [HQ.out]; exact hjl
          have hnd : NdAt wr b (off + j * 9) (F.at_ j).1 := (NdAt.at_cells (wo := wo) j hjF HC.out).below hbw hlt
          have hch := HTL.out.at j hjF
          have hkt := F.kids_take j hjF
          have hm1 : (F.take (j + 1)).kids.len ≤ 1000000 := by
            have h1 := (F.take (j + 1)).size_kids
            have h2 := (F.take (j + 1)).kids.len_le_size
            have h3 := F.size_take_le (j + 1)
            omega
          have hla : (F.take (j + 1)).kids.len = (F.take j).kids.len + (F.at_ j).2.len := by rw [hkt, Te.len_app]
          have hta : (F.take (j + 1)).kids.cells = (F.take j).kids.cells ++ (F.at_ j).2.cells := by rw [hkt, Te.cells_app]
          generalize F.at_ j = p at *
          obtain ⟨⟨y0, y1, y2, y3, y4, ⟨yu1, yu2, yu3⟩, y6, ⟨yv1, yv2, yv3⟩, y8, y9⟩, pf⟩ := p
          obtain ⟨c0, c1, c2, c3, c4, c5, c6, c7, c8⟩ := hnd
          dsimp only [slv] at c0 c1 c2 c3 c4 c5 c6 c7 c8 hla hta
          obtain ⟨W1, hW1⟩ : ∃ W1, W1 = wr.alloc (.cells #[.int .i64 y0, .string y1, .int .i64 y2, .int .i64 y3, .int .i64 y4, .slice yu1 yu2 yu3, .slice yv1 yv2 yv3, .int .i64 y8, .int .i64 y9] 29) := ⟨_, rfl⟩
          have hbW : Below wo.heap.size wo W1 := by rw [hW1]; exact hbw.alloc hbw.size _
          have hsW := hbW.size
          have rd1 : Rd W1 9 (.slice yv1 yv2 yv3) pf.len pf.cells := TeV.rd9 (Nat.le_trans HB.out.size hsW) ((hch.below (hbW.mono HB.out.size)).2)
          have own1 := hown.alloc (.cells #[.int .i64 y0, .string y1, .int .i64 y2, .int .i64 y3, .int .i64 y4, .slice yu1 yu2 yu3, .slice yv1 yv2 yv3, .int .i64 y8, .int .i64 y9] 29)
          rw [← hW1] at own1
          obtain ⟨i0, hi0, hz0, hz1, hz2⟩ := info_parts teInfo
          obtain ⟨v1, w1, hrun, hown1, hg1, _⟩ := run_append_rd (P := Try.prog) W1 wo.heap.size 25 25 29 i0 _ 9 112 Try.underlying25 hi0 hz0 hz1 hz2 rfl (by omega) u5 _ _ own1 _ pf.len _ rd1 pf.cells_one (by unfold maxLen; omega) (by omega) hsW
          have hrun2 : (app_ #[25, 25] 25 #[u5, .slice yv1 yv2 yv3]).run Try.prog W1 = .ok v1 w1 := hrun
          have hb1 : Below wo.heap.size wo w1 := hbW.trans ((Below.refl _ _).grown hg1 hsW (fun k e => (own1.lt k e).1))
          rw [← hla, ← hta] at hown1
          have HO1 := Lib.hid hown1
          have HB1 := Lib.hid hb1
          rw [hW1] at hrun2
          clear hrun hown1 hg1 own1 rd1 hbW hsW hW1 hb1 hown hbw hch hkt hm1 hla hta hjF
          go_wp2_with fail
          go_roundw
          case rel => exact ⟨j + 1, by omega, by go_num, HO1.out, HB1.out⟩
          case measure => simp [intOf]; omega
        · obtain rfl : j = q := by omega
          have HO := Lib.hid (show wr.ownsRow wo.heap.size 29 9 u5 F.kids.len F.kids.cells by rw [← HQ.out, F.take_len] at hown; exact hown)
          have HBW := Lib.hid hbw
          clear hown hbw
          go_wp2_with fail
          have hnew : EDInv w D 1000000 (.int .i64 (d + 1 : Nat)) u5 wr F.kids.size :=
            ⟨F.kids, d + 1, rfl, rfl, by have := HK.out; omega, by omega, Rd.of_own HO.out, HTL.out.kids.below (HBW.out.mono HB.out.size), HB.out.trans (HBW.out.mono HB.out.size)⟩
          have HN := Lib.hid hnew
          clear hnew
          go_roundw
          case rel => exact ⟨_, HN.out⟩
          case measure =>
            refine Nat.lt_of_le_of_lt (least_of HN.out).2 (Nat.lt_of_lt_of_le ?_ (Nat.le_of_eq HM.out))
            have := HQ.out
            omega
end Go.Proofs.Ytglmhdlkhnlkiaa
/- term.sameAlone; term.Equal's own function. -/
namespace Go.Proofs.Ytglmhdlkhnlkiaa
open Go.RowKit

set_option maxHeartbeats 2000000 in
set_option maxRecDepth 100000 in
theorem sameAlone_any (x y : Nd) (f g : Te) (w : World) (h : TmL w.heap.size w (x, f)) (h' : TmL w.heap.size w (y, g)) (hs : x.ty.size < 1000000) (hs' : y.ty.size < 1000000) :
    Calls Try.prog 32 #[teVal x, teVal y] w fun e w' => e = .returned (.bool (ndE false x y)) ∧ Below w.heap.size w w' := by
  obtain ⟨w1, hw1⟩ : ∃ w1, (w.alloc (Obj.cells (ndC x).toArray 29)).alloc (Obj.cells (ndC y).toArray 29) = w1 := ⟨_, rfl⟩
  have hb1 : Below w.heap.size w w1 := by rw [← hw1]; exact ((Below.refl _ _).alloc (Nat.le_refl _) _).alloc (by simp) _
  have hc := same_any w1 x.tk x.tn y.tk y.tn x.tu y.tu x.ty y.ty (h.1.up hb1 hb1.size) (h'.1.up hb1 hb1.size) hs hs'
  rw [← hw1] at hc
  obtain ⟨e, he⟩ : ∃ e, (x.tk == y.tk && x.tn == y.tn && x.ty.same y.ty) = e := ⟨_, rfl⟩
  obtain ⟨R, hR⟩ : ∃ R, ndE false x y = R := ⟨_, rfl⟩
  rw [he] at hc
  unfold ndE at hR
  rw [he] at hR
  rw [show ndE false x y = R by unfold ndE; rw [he]; exact hR]
  simp only [Bool.false_eq_true, if_false] at hR
  have HW := Lib.hid (And.intro hw1 hb1)
  obtain ⟨x0, x1, x2, x3, x4, ⟨xu1, xu2, xu3⟩, x6, ⟨xv1, xv2, xv3⟩, x8, x9⟩ := x
  obtain ⟨y0, y1, y2, y3, y4, ⟨yu1, yu2, yu3⟩, y6, ⟨yv1, yv2, yv3⟩, y8, y9⟩ := y
  dsimp only [teVal, tyVal, slv, ndC] at hc HW hR ⊢
  obtain ⟨b1, hb1'⟩ : ∃ b, (x0 == y0) = b := ⟨_, rfl⟩
  obtain ⟨b2, hb2'⟩ : ∃ b, (x1.toList == y1.toList) = b := ⟨_, rfl⟩
  obtain ⟨b3, hb3'⟩ : ∃ b, (x2 == y2) = b := ⟨_, rfl⟩
  obtain ⟨b4, hb4'⟩ : ∃ b, (x0 == 1) = b := ⟨_, rfl⟩
  rw [hb1', hb2', hb3', hb4'] at hR
  have HC := Lib.hid hc
  have HR := Lib.hid hR
  clear hc h h' hs hs' hw1 hb1 hR he
  have HBw := Lib.hid (show ∀ (a b : Obj), Below w.heap.size w ((w.alloc a).alloc b) from fun a b => ((Below.refl _ w).alloc (Nat.le_refl _) _).alloc (by simp) _)
  cases b1
  case' false =>
    go_enter Try.func32, Try.ntmps32
    go_wp2_with fail
    go_ret
    exact ⟨ret_bool (by rw [← HR.out]; rfl), HBw.out _ _⟩
  cases b2
  case' false =>
    go_enter Try.func32, Try.ntmps32
    go_wp2_with fail
    go_ret
    exact ⟨ret_bool (by rw [← HR.out]; rfl), HBw.out _ _⟩
  cases b3
  case' true =>
    go_enter Try.func32, Try.ntmps32
    go_wp2_with (go_at_call 50; refine HC.out.mono ?_; rintro e2 w2 ⟨rfl, hb2⟩)
    rw [HW.out.1] at hb2
    have HB := Lib.hid (HW.out.2.trans (hb2.mono HW.out.2.size))
    clear hb2
    try go_wp2_with fail
    go_ret
    exact ⟨ret_bool (by rw [← HR.out]; simp), HB.out⟩
  cases b4
  case' false =>
    go_enter Try.func32, Try.ntmps32
    go_wp2_with fail
    go_ret
    exact ⟨ret_bool (by rw [← HR.out]; simp), HBw.out _ _⟩
  · go_enter Try.func32, Try.ntmps32
    go_wp2_with (go_at_call 50; refine HC.out.mono ?_; rintro e2 w2 ⟨rfl, hb2⟩)
    rw [HW.out.1] at hb2
    have HB := Lib.hid (HW.out.2.trans (hb2.mono HW.out.2.size))
    clear hb2
    try go_wp2_with fail
    go_ret
    exact ⟨ret_bool (by rw [← HR.out]; simp), HB.out⟩
set_option maxHeartbeats 2000000 in
set_option maxRecDepth 100000 in
theorem equal1_any (x y : Nd) (f g : Te) (w : World) (h : TmL w.heap.size w (x, f)) (h' : TmL w.heap.size w (y, g)) (hs : x.ty.size < 1000000) (hs' : y.ty.size < 1000000) :
    Calls Try.prog 34 #[teVal x, teVal y] w fun e w' => e = .returned (.bool (ndE true x y)) ∧ Below w.heap.size w w' := by
  obtain ⟨w1, hw1⟩ : ∃ w1, (w.alloc (Obj.cells (ndC x).toArray 29)).alloc (Obj.cells (ndC y).toArray 29) = w1 := ⟨_, rfl⟩
  have hb1 : Below w.heap.size w w1 := by rw [← hw1]; exact ((Below.refl _ _).alloc (Nat.le_refl _) _).alloc (by simp) _
  have hc := sameAlone_any x y f g w1 (h.up hb1 hb1.size) (h'.up hb1 hb1.size) hs hs'
  have hx : w1.heap[w.heap.size]? = some (Obj.cells (ndC x).toArray 29) := by rw [← hw1]; exact (Below.heap_alloc _ _ _ (by simp)).trans (heap_alloc_new w _)
  have hy : w1.heap[w.heap.size + 1]? = some (Obj.cells (ndC y).toArray 29) := by
    rw [← hw1]
    have := heap_alloc_new (w.alloc (Obj.cells (ndC x).toArray 29)) (Obj.cells (ndC y).toArray 29)
    rwa [World.size_alloc] at this
  rw [← hw1] at hc
  obtain ⟨e, he⟩ : ∃ e, ndE false x y = e := ⟨_, rfl⟩
  rw [he] at hc
  obtain ⟨R, hR⟩ : ∃ R, ndE true x y = R := ⟨_, rfl⟩
  rw [hR]
  have hR2 : (e && (x.n == y.n && (x.a == y.a && x.b == y.b))) = R := by
    rw [← hR, ← he]
    unfold ndE
    simp only [if_true, Bool.false_eq_true, if_false]
    cases (x.n == y.n) <;> simp [Bool.and_assoc]
  have HR := Lib.hid hR2
  have HW := Lib.hid (And.intro hw1 (And.intro hb1 (And.intro hx hy)))
  obtain ⟨x0, x1, x2, x3, x4, ⟨xu1, xu2, xu3⟩, x6, ⟨xv1, xv2, xv3⟩, x8, x9⟩ := x
  obtain ⟨y0, y1, y2, y3, y4, ⟨yu1, yu2, yu3⟩, y6, ⟨yv1, yv2, yv3⟩, y8, y9⟩ := y
  dsimp only [teVal, slv, ndC] at hc HW HR ⊢
  have HC := Lib.hid hc
  clear hc h h' hs hs' hw1 hb1 hx hy hR hR2 he
  go_enter Try.func34, Try.ntmps34
  go_wp2_with fail
  refine HC.out.mono ?_
  rintro e2 w2 ⟨rfl, hb2⟩
  rw [HW.out.1] at hb2
  have HB := Lib.hid (HW.out.2.1.trans (hb2.mono HW.out.2.1.size))
  have hx := (hb2.block _ (Array.getElem?_eq_some_iff.1 HW.out.2.2.1).1).trans HW.out.2.2.1
  have hy := (hb2.block _ (Array.getElem?_eq_some_iff.1 HW.out.2.2.2).1).trans HW.out.2.2.2
  have p2 : w2.cell? ⟨w.heap.size, 2, none⟩ = some (.int .i64 x2) := cell_of_row w2 _ 2 _ _ (0, 0) hx
  have p7 : w2.cell? ⟨w.heap.size, 7, none⟩ = some (.int .i64 x8) := cell_of_row w2 _ 7 _ _ (0, 0) hx
  have p8 : w2.cell? ⟨w.heap.size, 8, none⟩ = some (.int .i64 x9) := cell_of_row w2 _ 8 _ _ (0, 0) hx
  have r2 : w2.cell? ⟨w.heap.size + 1, 2, none⟩ = some (.int .i64 y2) := cell_of_row w2 _ 2 _ _ (0, 0) hy
  have r7 : w2.cell? ⟨w.heap.size + 1, 7, none⟩ = some (.int .i64 y8) := cell_of_row w2 _ 7 _ _ (0, 0) hy
  have r8 : w2.cell? ⟨w.heap.size + 1, 8, none⟩ = some (.int .i64 y9) := cell_of_row w2 _ 8 _ _ (0, 0) hy
  clear hb2 hx hy
  obtain ⟨b3, hb3'⟩ : ∃ b, (x2 == y2) = b := ⟨_, rfl⟩
  rw [hb3'] at HR
  cases e
  case' false =>
    go_wp2_with fail
    go_ret
    exact ⟨ret_bool (by rw [← HR.out]; rfl), HB.out⟩
  cases b3
  case' false =>
    go_wp2_with fail
    go_ret
    exact ⟨ret_bool (by rw [← HR.out]; rfl), HB.out⟩
  go_wp2_with fail
  all_goals
    go_ret
    refine ⟨ret_bool ?_, HB.out⟩
    rw [← HR.out]
    simp_all
end Go.Proofs.Ytglmhdlkhnlkiaa
