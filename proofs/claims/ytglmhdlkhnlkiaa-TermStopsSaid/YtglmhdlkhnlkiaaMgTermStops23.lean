/- Texts of one proof, one behind the other. -/
import Derived.Test.YtglmhdlkhnlkiaaMgTermStops22
import Derived.Test.YtglmhdlkhnlkiaaMgTermStops20
import Derived.Test.YtglmhdlkhnlkiaaMgTermStops2
import Derived.Test.YtglmhdlkhnlkiaaMgTermStops4
import Derived.Deep.DeepCutAuto
import Derived.Deep.RegionWith
/- Variables: the plain facts; an append of numbers; the answer's Vars. -/
namespace Go.Proofs.Ytglmhdlkhnlkiaa
open Go.RowKit Go.Shelf
attribute [local go_sem ↓] builtin_app
theorem intInfo : (Try.prog.info? 3).map (fun i => (i.zero, i.size, i.bytes)) = some (some (.int .i64 0), 1, 8) := by kernel_rfl
def ints (L : List Int) : List Value := L.map (Value.int .i64)
theorem ints_len (L : List Int) : (ints L).length = L.length := by simp [ints]
theorem ints_app (a b : List Int) : ints (a ++ b) = ints a ++ ints b := by simp [ints]
theorem ints_one (L : List Int) : ∀ u ∈ ints L, u.oneCell' = true := by
  intro u hu
  obtain ⟨x, _, rfl⟩ := List.mem_map.1 hu
  rfl
/-- An append of numbers. -/
theorem app_int (W : World) (base : Nat) (v : Value) (L : List Int) (own : W.ownsRow base 3 1 v L.length (ints L)) (vx : Value) (L2 : List Int) (rd : Rd W 1 vx L2.length (ints L2)) (hl : L.length + L2.length ≤ 100000000) (hbase : base ≤ W.heap.size) :
    ∃ v' W', (app_ #[62, 62] 62 #[v, vx]).run Try.prog W = .ok v' W' ∧ W'.ownsRow base 3 1 v' (L ++ L2).length (ints (L ++ L2)) ∧ Below base W W' ∧ KeepT 24 W W' ∧ W.grownBy W' v.ownBlock ∧ (v'.ownBlock = v.ownBlock ∨ v'.ownBlock = some W.heap.size) := by
  obtain ⟨i0, hi0, hz0, hz1, hz2⟩ := info_parts intInfo
  obtain ⟨v1, w1, hrun, hown, hg, hat⟩ := run_append_rd (P := Try.prog) W base 62 62 3 i0 _ 1 8 Try.underlying62 hi0 hz0 hz1 hz2 rfl (by omega) v _ _ own vx _ _ rd (ints_one _) (by unfold maxLen; omega) (by omega) hbase
  refine ⟨v1, w1, hrun, ?_, (Below.refl _ _).grown hg hbase (fun k e => (own.lt k e).1), KeepT.grown hg (row_not own (by decide)), hg, hat⟩
  rw [List.length_append, ints_app]
  exact hown
/-- One type's variable, behind others. -/
def addV (l : List Int) (x : Tr) : List Int := if x.1 = 1 ∧ ¬ x.2.1 ∈ l then l ++ [x.2.1] else l
def varsL (l : List Int) (L : List Tr) : List Int := L.foldl addV l
theorem varsL_len (L : List Tr) (l : List Int) : (varsL l L).length ≤ l.length + L.length := by
  induction L generalizing l with
  | nil => simp [varsL]
  | cons x r ih =>
    have h := ih (addV l x)
    have h2 : (addV l x).length ≤ l.length + 1 := by unfold addV; split <;> simp
    simp only [varsL, List.foldl_cons, List.length_cons] at h ⊢
    omega
theorem varsL_app (l : List Int) (a b : List Tr) : varsL l (a ++ b) = varsL (varsL l a) b := by simp [varsL]
/-- A list of numbers, at a value. -/
def IsInts (L : List Int) (w : World) (e : Ending) (w' : World) : Prop := ∃ v, e = .returned v ∧ Rd w' 1 v L.length (ints L) ∧ Below w.heap.size w w'
theorem Rd.form {w : World} {size : Nat} {v : Value} {n : Nat} {xs : List Value} (h : Rd w size v n xs) : ∃ A c, v = .slice A n c := by
  rcases h.2 with ⟨h0, A, c, h⟩ | ⟨b, off, cap, h, _⟩
  · exact ⟨A, c, by rw [h, h0]⟩
  · exact ⟨_, cap, h⟩
set_option maxHeartbeats 2000000 in
set_option maxRecDepth 100000 in
theorem rvars_any (m : Nat) : ∀ (f : Fo) (k n : Int) (v : Value) (w : World) (L : List Int) (vl : Value), f.size < m → L.length + f.size ≤ 100000 → TyV w.heap.size w f v → Rd w 1 vl L.length (ints L) →
    Calls Try.prog 48 #[tyVal k n v, vl] w (IsInts (varsL L ((k, n, (none, 0, 0)) :: f.pre)) w) := by
  induction m with
  | zero => intro f k n v w L vl h; omega
  | succ m ih =>
    intro f k n v w L vl hm hs h hR
    obtain ⟨A, c, rfl⟩ := h.slice
    obtain ⟨A2, c2, rfl⟩ := hR.form
    have H := Lib.hid h
    have IH := Lib.hid ih
    have hll := f.len_le_size
    have HR := Lib.hid hR
    obtain ⟨W0, hW0⟩ : ∃ W0, w.alloc (.cells #[.int .i64 k, .int .i64 n, .slice A f.len c] 24) = W0 := ⟨_, rfl⟩
    have hb0 : Below w.heap.size w W0 := by rw [← hW0]; exact (Below.refl _ _).alloc (Nat.le_refl _) _
    have hx0 : W0.heap[w.heap.size]? = some (Obj.cells #[.int .i64 k, .int .i64 n, .slice A f.len c] 24) := by rw [← hW0]; exact heap_alloc_new w _
    have hl0 : w.heap.size < W0.heap.size := (Array.getElem?_eq_some_iff.1 hx0).1
    have x0 : W0.cell? ⟨w.heap.size, 0, none⟩ = some (.int .i64 k) := cell_of_row W0 _ 0 _ _ (0, 0) hx0
    have x1 : W0.cell? ⟨w.heap.size, 1, none⟩ = some (.int .i64 n) := cell_of_row W0 _ 1 _ _ (0, 0) hx0
    have x2 : W0.cell? ⟨w.heap.size, 2, none⟩ = some (.slice A f.len c) := cell_of_row W0 _ 2 _ _ (0, 0) hx0
    have HB0 := Lib.hid hb0
    clear h ih hR hx0 hb0
    unfold tyVal
    go_enter Try.func48, Try.ntmps48
    by_cases h1 : k = 1
    · subst h1
      have hin := rin_any L (.slice A2 L.length c2) n W0 (HR.out.below HB0.out) (by omega)
      by_cases hmem : n ∈ L
      · rw [show decide (n ∈ L) = true from decide_eq_true hmem] at hin
        have HIN := Lib.hid hin
        clear hin
        go_upto_if 15 with (go_at_call 62; refine HIN.out.mono ?_; rintro e w2 ⟨rfl, hb2⟩)
        have haddk : addV L (1, n, (none, 0, 0)) = L := by unfold addV; rw [if_neg (by simp [hmem])]
        have hRw : Rd w2 1 (.slice A2 L.length c2) L.length (ints L) := (HR.out.below HB0.out).below hb2
        have HB2 := Lib.hid hb2
        have hSS : Rd w2 1 (.slice A2 L.length c2) (addV L (1, n, (none, 0, 0))).length (ints (addV L (1, n, (none, 0, 0)))) := by rw [haddk]; exact hRw
        clear hb2 haddk hRw
        obtain ⟨L1, hL1⟩ : ∃ L1, addV L (1, n, (none, 0, 0)) = L1 := ⟨_, rfl⟩
        have hL1l : L1.length ≤ L.length + 1 := by rw [← hL1]; unfold addV; split <;> simp
        rw [hL1] at hSS
        have HST := Lib.hid (And.intro hSS (HB2.out))
        have HV := Lib.hid (show varsL L ((1, n, (none, 0, 0)) :: f.pre) = varsL L1 f.pre by rw [← hL1]; rfl)
        clear hL1
        go_wp2_with fail
        go_loopw [1, 5] (fun t1 t5 wr => ∃ j : Nat, j ≤ f.len ∧ t5 = .int .i64 j ∧ Rd wr 1 t1 (varsL L1 (f.take j).pre).length (ints (varsL L1 (f.take j).pre)) ∧ Below W0.heap.size W0 wr) (fun _ t _ => f.len - (intOf t).toNat)
        case atStart => exact ⟨0, Nat.zero_le _, rfl, by rw [Fo.take_zero]; exact HST.out.1, HST.out.2⟩
        case round =>
          obtain ⟨j, hj, rfl, hRj, hb⟩ := hrel
          have e2 : wr.cell? ⟨w.heap.size, 2, none⟩ = some (.slice A f.len c) := (hb.cell (p := ⟨w.heap.size, 2, none⟩) hl0).trans x2
          have HB := Lib.hid hb
          have HRJ := Lib.hid hRj
          have hz := hb.size
          clear hb hRj
          by_cases hjl : j < f.len
          · obtain ⟨b, off, cap, hv, _, _, hlt, hC⟩ := H.out.form (by omega)
            injection hv with hA _ hcc
            subst hA; subst hcc
            obtain ⟨d0, d1, d2, hch⟩ := tyC_at hC j hjl
            have hbb := HB0.out.trans (HB.out.mono HB0.out.size)
            have c0 := (hbb.cell (p := ⟨b, off + j * 3, none⟩) hlt).trans d0
            have c1 := (hbb.cell (p := ⟨b, off + j * 3 + 1, none⟩) hlt).trans d1
            have c2 := (hbb.cell (p := ⟨b, off + j * 3 + 2, none⟩) hlt).trans d2
            have hch' : TyV wr.heap.size wr (f.at_ j).2.2.2 (slv (f.at_ j).2.2.1) := (hch.keep hbb.size fun b off hb' => hbb.cell (p := ⟨b, off, none⟩) hb')
            have hsz := f.at_size j hjl
            have hpt := Fo.pre_take f j hjl
            have hle := f.size_take_le (j + 1)
            have hst := f.size_take_step j hjl
            have hvl := varsL_len (f.take j).pre L1
            rw [Fo.pre_len] at hvl
            have hva : varsL L1 (f.take (j + 1)).pre = varsL (varsL L1 (f.take j).pre) (((f.at_ j).1, (f.at_ j).2.1, (none, 0, 0)) :: (f.at_ j).2.2.2.pre) := by
              rw [hpt, varsL_app]
              rfl
            clear d0 d1 d2 hC hch hpt hbb
            have hrec := IH.out (f.at_ j).2.2.2 (f.at_ j).1 (f.at_ j).2.1 (slv (f.at_ j).2.2.1) wr (varsL L1 (f.take j).pre) u1 (by omega) (by omega) hch' HRJ.out
            unfold tyVal at hrec
            generalize f.at_ j = p at *
            obtain ⟨pk, pn, ⟨p1, p2, p3⟩, pf⟩ := p
            dsimp only [slv] at c0 c1 c2 hrec hva
            have HREC := Lib.hid hrec
            have HVA := Lib.hid hva
            clear hrec hva hch' hst hvl
            go_wp2_with fail
            refine HREC.out.mono ?_
            rintro e w5 ⟨v5, rfl, hR5, hb5⟩
            have HR5 := Lib.hid hR5
            have HB5 := Lib.hid hb5
            clear hR5 hb5
            go_wp2_with fail
            go_roundw
            case rel => exact ⟨j + 1, by omega, by go_num, by rw [HVA.out]; exact HR5.out, HB.out.trans (HB5.out.mono hz)⟩
            case measure => simp [intOf]; omega
          · obtain rfl : j = f.len := by omega
            have HT : Hid (f.take f.len = f) := Lib.hid f.take_len
            go_wp2_with fail
            go_ret
            refine ⟨_, rfl, ?_, HB0.out.trans (HB.out.mono HB0.out.size)⟩
            have h := HRJ.out
            rw [HT.out] at h
            rw [HV.out]
            exact h
      · rw [show decide (n ∈ L) = false from decide_eq_false hmem] at hin
        have HIN := Lib.hid hin
        clear hin
        go_upto_region 2 with (go_at_call 62; refine HIN.out.mono ?_; rintro e w2 ⟨rfl, hb2⟩)
        have hRw : Rd w2 1 (.slice A2 L.length c2) L.length (ints L) := (HR.out.below HB0.out).below hb2
        have y1 : w2.cell? ⟨w.heap.size, 1, none⟩ = some (.int .i64 n) := (hb2.cell (p := ⟨w.heap.size, 1, none⟩) hl0).trans x1
        have hlw : w.heap.size < w2.heap.size := Nat.lt_of_lt_of_le hl0 hb2.size
        have hBa : Below w2.heap.size w2 (w2.alloc (.cells #[] 3)).drew := ((Below.refl _ _).alloc (Nat.le_refl _) _).drew
        have hBb : Below w2.heap.size w2 ((w2.alloc (.cells #[] 3)).alloc (.cells #[.int .i64 n] 3)).drew := (((Below.refl _ _).alloc (Nat.le_refl _) _).alloc (by simp) _).drew
        have hBc : Below w2.heap.size w2 ((w2.alloc (.cells #[.int .i64 n] 3)).alloc (.cells #[] 3)).drew := (((Below.refl _ _).alloc (Nat.le_refl _) _).alloc (by simp) _).drew
        obtain ⟨va, wa, run1a, own1a, ba, _, ga, _⟩ := app_int (w2.alloc (.cells #[] 3)).drew w2.heap.size (.slice (some ⟨w2.heap.size, 0, none⟩) 0 0) [] ((own_none_yet w2 _ (Nat.le_refl _) _ _).drew) (.slice A2 L.length c2) L (hRw.below hBa) (by simp; omega) (by simp)
        obtain ⟨va2, wa2, run2a, own2a, ba2, _⟩ := app_int (wa.alloc (.cells #[.int .i64 n] 3)) w2.heap.size va _ (own1a.alloc _) (.slice (some ⟨wa.heap.size, 0, none⟩) 1 1) [n] (rd_new wa [.int .i64 n] _ 1 1 rfl (by unfold maxLen; omega)) (by simp; omega) (by have := hBa.size; have := ba.size; simp at *; omega)
        have rb : Rd ((w2.alloc (.cells #[] 3)).alloc (.cells #[.int .i64 n] 3)).drew 1 (.slice (some ⟨w2.heap.size + 1, 0, none⟩) 1 1) 1 (ints [n]) := by
          have h := rd_new (w2.alloc (.cells #[] 3)) [.int .i64 n] 3 1 1 rfl (by unfold maxLen; omega)
          simp only [World.size_alloc] at h
          exact h.drew
        have rc : Rd ((w2.alloc (.cells #[.int .i64 n] 3)).alloc (.cells #[] 3)).drew 1 (.slice (some ⟨w2.heap.size, 0, none⟩) 1 1) 1 (ints [n]) :=
          ((rd_new w2 [.int .i64 n] 3 1 1 rfl (by unfold maxLen; omega)).alloc _).drew
        have oc : ((w2.alloc (.cells #[.int .i64 n] 3)).alloc (.cells #[] 3)).drew.ownsRow w2.heap.size 3 1 (.slice (some ⟨w2.heap.size + 1, 0, none⟩) 0 0) 0 [] := by
          have h := own_none_yet (w2.alloc (.cells #[.int .i64 n] 3)) w2.heap.size (by simp) 3 1
          simp only [World.size_alloc] at h
          exact h.drew
        obtain ⟨vb, wb, run1b, own1b, bb, _, gb, _⟩ := app_int ((w2.alloc (.cells #[] 3)).alloc (.cells #[.int .i64 n] 3)).drew w2.heap.size (.slice (some ⟨w2.heap.size, 0, none⟩) 0 0) [] (((own_none_yet w2 _ (Nat.le_refl _) _ _).alloc _).drew) (.slice A2 L.length c2) L (hRw.below hBb) (by simp; omega) (by simp <;> omega)
        obtain ⟨vb2, wb2, run2b, own2b, bb2, _⟩ := app_int wb w2.heap.size vb _ own1b (.slice (some ⟨w2.heap.size + 1, 0, none⟩) 1 1) [n] (rb.far (by simp) gb (by simp [Value.ownBlock])) (by simp; omega) (by have := hBb.size; have := bb.size; simp at *; omega)
        obtain ⟨vc, w3c, run1c, own1c, bc, _, gc, _⟩ := app_int ((w2.alloc (.cells #[.int .i64 n] 3)).alloc (.cells #[] 3)).drew w2.heap.size (.slice (some ⟨w2.heap.size + 1, 0, none⟩) 0 0) [] oc (.slice A2 L.length c2) L (hRw.below hBc) (by simp; omega) (by simp <;> omega)
        obtain ⟨vc2, wc2, run2c, own2c, bc2, _⟩ := app_int w3c w2.heap.size vc _ own1c (.slice (some ⟨w2.heap.size, 0, none⟩) 1 1) [n] (rc.far (by simp <;> omega) gc (by simp [Value.ownBlock])) (by simp; omega) (by have := hBc.size; have := bc.size; simp at *; omega)
        have y1a : wa.cell? ⟨w.heap.size, 1, none⟩ = some (.int .i64 n) := (ba.cell (p := ⟨w.heap.size, 1, none⟩) hlw).trans ((hBa.cell (p := ⟨w.heap.size, 1, none⟩) hlw).trans y1)
        have y1b : wb.cell? ⟨w.heap.size, 1, none⟩ = some (.int .i64 n) := (bb.cell (p := ⟨w.heap.size, 1, none⟩) hlw).trans ((hBb.cell (p := ⟨w.heap.size, 1, none⟩) hlw).trans y1)
        have FA := Lib.hid (And.intro (Rd.of_own own2a) (hBa.trans (ba.trans ((Below.refl w2.heap.size wa).alloc (by have := hBa.size; have := ba.size; simp at *; omega) _ |>.trans ba2))))
        have FB := Lib.hid (And.intro (Rd.of_own own2b) (hBb.trans (bb.trans bb2)))
        have FC := Lib.hid (And.intro (Rd.of_own own2c) (hBc.trans (bc.trans bc2)))
        have hadd : addV L (1, n, (none, 0, 0)) = L ++ [n] := by unfold addV; rw [if_pos ⟨rfl, hmem⟩]
        have HADD := Lib.hid hadd
        have HB2 := Lib.hid hb2
        clear hadd rb rc oc own1a own2a own1b own2b own1c own2c ga gb gc hRw hBa hBb hBc ba ba2 bb bb2 bc bc2 hb2
        go_cut [1] (fun s1 wx => Rd wx 1 s1 (addV L (1, n, (none, 0, 0))).length (ints (addV L (1, n, (none, 0, 0)))) ∧ Below w2.heap.size w2 wx)
        case first =>
          go_region
          all_goals go_wp2_with fail
          all_goals go_meet
          all_goals rw [HADD.out]
          all_goals first | exact FA.out | exact FB.out | exact FC.out
        case rest =>
          obtain ⟨hSS, hBc⟩ := hcut
          obtain ⟨L1, hL1⟩ : ∃ L1, addV L (1, n, (none, 0, 0)) = L1 := ⟨_, rfl⟩
          have hL1l : L1.length ≤ L.length + 1 := by rw [← hL1]; unfold addV; split <;> simp
          rw [hL1] at hSS
          have HST := Lib.hid (And.intro hSS (HB2.out.trans (hBc.mono HB2.out.size)))
          have HV := Lib.hid (show varsL L ((1, n, (none, 0, 0)) :: f.pre) = varsL L1 f.pre by rw [← hL1]; rfl)
          clear hL1
          go_wp2_with fail
          go_loopw [1, 5] (fun t1 t5 wr => ∃ j : Nat, j ≤ f.len ∧ t5 = .int .i64 j ∧ Rd wr 1 t1 (varsL L1 (f.take j).pre).length (ints (varsL L1 (f.take j).pre)) ∧ Below W0.heap.size W0 wr) (fun _ t _ => f.len - (intOf t).toNat)
          case atStart => exact ⟨0, Nat.zero_le _, rfl, by rw [Fo.take_zero]; exact HST.out.1, HST.out.2⟩
          case round =>
            obtain ⟨j, hj, rfl, hRj, hb⟩ := hrel
            have e2 : wr.cell? ⟨w.heap.size, 2, none⟩ = some (.slice A f.len c) := (hb.cell (p := ⟨w.heap.size, 2, none⟩) hl0).trans x2
            have HB := Lib.hid hb
            have HRJ := Lib.hid hRj
            have hz := hb.size
            clear hb hRj
            by_cases hjl : j < f.len
            · obtain ⟨b, off, cap, hv, _, _, hlt, hC⟩ := H.out.form (by omega)
              injection hv with hA _ hcc
              subst hA; subst hcc
              obtain ⟨d0, d1, d2, hch⟩ := tyC_at hC j hjl
              have hbb := HB0.out.trans (HB.out.mono HB0.out.size)
              have c0 := (hbb.cell (p := ⟨b, off + j * 3, none⟩) hlt).trans d0
              have c1 := (hbb.cell (p := ⟨b, off + j * 3 + 1, none⟩) hlt).trans d1
              have c2 := (hbb.cell (p := ⟨b, off + j * 3 + 2, none⟩) hlt).trans d2
              have hch' : TyV wr.heap.size wr (f.at_ j).2.2.2 (slv (f.at_ j).2.2.1) := (hch.keep hbb.size fun b off hb' => hbb.cell (p := ⟨b, off, none⟩) hb')
              have hsz := f.at_size j hjl
              have hpt := Fo.pre_take f j hjl
              have hle := f.size_take_le (j + 1)
              have hst := f.size_take_step j hjl
              have hvl := varsL_len (f.take j).pre L1
              rw [Fo.pre_len] at hvl
              have hva : varsL L1 (f.take (j + 1)).pre = varsL (varsL L1 (f.take j).pre) (((f.at_ j).1, (f.at_ j).2.1, (none, 0, 0)) :: (f.at_ j).2.2.2.pre) := by
                rw [hpt, varsL_app]
                rfl
              clear d0 d1 d2 hC hch hpt hbb
              have hrec := IH.out (f.at_ j).2.2.2 (f.at_ j).1 (f.at_ j).2.1 (slv (f.at_ j).2.2.1) wr (varsL L1 (f.take j).pre) u1 (by omega) (by omega) hch' HRJ.out
              unfold tyVal at hrec
              generalize f.at_ j = p at *
              obtain ⟨pk, pn, ⟨p1, p2, p3⟩, pf⟩ := p
              dsimp only [slv] at c0 c1 c2 hrec hva
              have HREC := Lib.hid hrec
              have HVA := Lib.hid hva
              clear hrec hva hch' hst hvl
              go_wp2_with fail
              refine HREC.out.mono ?_
              rintro e w5 ⟨v5, rfl, hR5, hb5⟩
              have HR5 := Lib.hid hR5
              have HB5 := Lib.hid hb5
              clear hR5 hb5
              go_wp2_with fail
              go_roundw
              case rel => exact ⟨j + 1, by omega, by go_num, by rw [HVA.out]; exact HR5.out, HB.out.trans (HB5.out.mono hz)⟩
              case measure => simp [intOf]; omega
            · obtain rfl : j = f.len := by omega
              have HT : Hid (f.take f.len = f) := Lib.hid f.take_len
              go_wp2_with fail
              go_ret
              refine ⟨_, rfl, ?_, HB0.out.trans (HB.out.mono HB0.out.size)⟩
              have h := HRJ.out
              rw [HT.out] at h
              rw [HV.out]
              exact h
    · have f1 : (k == 1) = false := beq_eq_false_iff_ne.2 h1
      have haddk : addV L (k, n, (none, 0, 0)) = L := by unfold addV; rw [if_neg (by simp [h1])]
      have hSS : Rd W0 1 (.slice A2 L.length c2) (addV L (k, n, (none, 0, 0))).length (ints (addV L (k, n, (none, 0, 0)))) := by rw [haddk]; exact HR.out.below HB0.out
      clear haddk
      obtain ⟨L1, hL1⟩ : ∃ L1, addV L (k, n, (none, 0, 0)) = L1 := ⟨_, rfl⟩
      have hL1l : L1.length ≤ L.length + 1 := by rw [← hL1]; unfold addV; split <;> simp
      rw [hL1] at hSS
      have HST := Lib.hid (And.intro hSS (Below.refl W0.heap.size W0))
      have HV := Lib.hid (show varsL L ((k, n, (none, 0, 0)) :: f.pre) = varsL L1 f.pre by rw [← hL1]; rfl)
      clear hL1
      go_wp2_with fail
      go_loopw [1, 5] (fun t1 t5 wr => ∃ j : Nat, j ≤ f.len ∧ t5 = .int .i64 j ∧ Rd wr 1 t1 (varsL L1 (f.take j).pre).length (ints (varsL L1 (f.take j).pre)) ∧ Below W0.heap.size W0 wr) (fun _ t _ => f.len - (intOf t).toNat)
      case atStart => exact ⟨0, Nat.zero_le _, rfl, by rw [Fo.take_zero]; exact HST.out.1, HST.out.2⟩
      case round =>
        obtain ⟨j, hj, rfl, hRj, hb⟩ := hrel
        have e2 : wr.cell? ⟨w.heap.size, 2, none⟩ = some (.slice A f.len c) := (hb.cell (p := ⟨w.heap.size, 2, none⟩) hl0).trans x2
        have HB := Lib.hid hb
        have HRJ := Lib.hid hRj
        have hz := hb.size
        clear hb hRj
        by_cases hjl : j < f.len
        · obtain ⟨b, off, cap, hv, _, _, hlt, hC⟩ := H.out.form (by omega)
          injection hv with hA _ hcc
          subst hA; subst hcc
          obtain ⟨d0, d1, d2, hch⟩ := tyC_at hC j hjl
          have hbb := HB0.out.trans (HB.out.mono HB0.out.size)
          have c0 := (hbb.cell (p := ⟨b, off + j * 3, none⟩) hlt).trans d0
          have c1 := (hbb.cell (p := ⟨b, off + j * 3 + 1, none⟩) hlt).trans d1
          have c2 := (hbb.cell (p := ⟨b, off + j * 3 + 2, none⟩) hlt).trans d2
          have hch' : TyV wr.heap.size wr (f.at_ j).2.2.2 (slv (f.at_ j).2.2.1) := (hch.keep hbb.size fun b off hb' => hbb.cell (p := ⟨b, off, none⟩) hb')
          have hsz := f.at_size j hjl
          have hpt := Fo.pre_take f j hjl
          have hle := f.size_take_le (j + 1)
          have hst := f.size_take_step j hjl
          have hvl := varsL_len (f.take j).pre L1
          rw [Fo.pre_len] at hvl
          have hva : varsL L1 (f.take (j + 1)).pre = varsL (varsL L1 (f.take j).pre) (((f.at_ j).1, (f.at_ j).2.1, (none, 0, 0)) :: (f.at_ j).2.2.2.pre) := by
            rw [hpt, varsL_app]
            rfl
          clear d0 d1 d2 hC hch hpt hbb
          have hrec := IH.out (f.at_ j).2.2.2 (f.at_ j).1 (f.at_ j).2.1 (slv (f.at_ j).2.2.1) wr (varsL L1 (f.take j).pre) u1 (by omega) (by omega) hch' HRJ.out
          unfold tyVal at hrec
          generalize f.at_ j = p at *
          obtain ⟨pk, pn, ⟨p1, p2, p3⟩, pf⟩ := p
          dsimp only [slv] at c0 c1 c2 hrec hva
          have HREC := Lib.hid hrec
          have HVA := Lib.hid hva
          clear hrec hva hch' hst hvl
          go_wp2_with fail
          refine HREC.out.mono ?_
          rintro e w5 ⟨v5, rfl, hR5, hb5⟩
          have HR5 := Lib.hid hR5
          have HB5 := Lib.hid hb5
          clear hR5 hb5
          go_wp2_with fail
          go_roundw
          case rel => exact ⟨j + 1, by omega, by go_num, by rw [HVA.out]; exact HR5.out, HB.out.trans (HB5.out.mono hz)⟩
          case measure => simp [intOf]; omega
        · obtain rfl : j = f.len := by omega
          have HT : Hid (f.take f.len = f) := Lib.hid f.take_len
          go_wp2_with fail
          go_ret
          refine ⟨_, rfl, ?_, HB0.out.trans (HB.out.mono HB0.out.size)⟩
          have h := HRJ.out
          rw [HT.out] at h
          rw [HV.out]
          exact h
end Go.Proofs.Ytglmhdlkhnlkiaa
