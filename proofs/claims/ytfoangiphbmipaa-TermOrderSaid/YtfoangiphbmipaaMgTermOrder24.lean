/- Texts of one proof, one behind the other. -/
import Derived.Test.YtfoangiphbmipaaMgTermOrder14
import Derived.Deep.RegionWith
import Derived.Test.YtfoangiphbmipaaMgTermOrder23
/- term.Apply. -/
namespace Go.Proofs.Ytfoangiphbmipaa
open Go.RowKit Go.Shelf
attribute [local go_sem] Oper.semAt_some

def nd5 : Nd := { nd0 with k := 5 }
/-- One applied to another. -/
def ap2 (a t : Tm) : Tm := (nd5, .cons a.1 a.2 (.cons t.1 t.2 .nil))
/-- The first one applied to the others. -/
def applT : List Tm → Tm
  | [] => (nd0, .nil)
  | t :: r => r.foldl ap2 t
theorem applT_snoc (l : List Tm) (t : Tm) (h : l ≠ []) : applT (l ++ [t]) = ap2 (applT l) t := by
  cases l with
  | nil => exact absurd rfl h
  | cons x r => simp [applT]
/-- What has come of the first ones. -/
def ApB (w0 : World) (a : Tm) (W : World) : Prop :=
  ∃ tu u : Sl, W.heap[w0.heap.size + 1]? = some (Obj.cells (ndC { a.1 with tu := tu, u := u }).toArray 29) ∧ FreshM (w0.heap.size + 2) W.heap.size W a.1 a.2 tu u
theorem FreshM.up {B C M N : Nat} {w : World} {x : Nd} {ps : Te} {tu u : Sl} (h : FreshM B M w x ps tu u) (hC : C ≤ B) (hN : M ≤ N) (hw : N ≤ w.heap.size) : FreshM C N w x ps tu u :=
  ⟨hw, fun W hW hk => h.2 W (Nat.le_trans hN hW) fun b o h1 h2 h3 h4 => hk b o (Nat.le_trans hC h1) (Nat.lt_of_lt_of_le h2 hN) h3 h4⟩
/-- Two terms in a new row. -/
theorem two_fresh {B : Nat} {w w' : World} {a t : Tm} {tu u tu2 u2 : Sl} (hB : B ≤ w.heap.size) (ha : FreshM B w.heap.size w a.1 a.2 tu u) (ht : FreshM B w.heap.size w t.1 t.2 tu2 u2)
    (hw : w.alloc (Obj.cells (ndC { a.1 with tu := tu, u := u } ++ ndC { t.1 with tu := tu2, u := u2 }).toArray 29) = w') :
    FreshM B w'.heap.size w' nd5 (.cons a.1 a.2 (.cons t.1 t.2 .nil)) (none, 0, 0) (some ⟨w.heap.size, 0, none⟩, 2, 2) := by
  have hs : w'.heap.size = w.heap.size + 1 := by rw [← hw]; simp
  have hb : Below w.heap.size w w' := by rw [← hw]; exact (Below.refl _ _).alloc (Nat.le_refl _) _
  have hh : w'.heap[w.heap.size]? = some (Obj.cells (ndC { a.1 with tu := tu, u := u } ++ ndC { t.1 with tu := tu2, u := u2 }).toArray 29) := by rw [← hw]; exact heap_alloc_new _ _
  refine ⟨Nat.le_refl _, fun W hW hk => ?_⟩
  have hkw : ∀ (b : Nat) (o : Obj), B ≤ b → b < w.heap.size → w.heap[b]? = some o → o.isCells = true → W.heap[b]? = some o := fun b o h1 h2 h3 h4 => hk b o h1 (by omega) ((hb.block b h2).trans h3) h4
  have hkr := hk w.heap.size _ hB (by omega) hh rfl
  obtain ⟨ty, g, h1, h2, h3, h4⟩ := ha.2 W (by omega) hkw
  obtain ⟨ty', g', h1', h2', h3', h4'⟩ := ht.2 W (by omega) hkw
  refine ⟨.nil, .cons { a.1 with tu := tu, u := u, ty := ty } g (.cons { t.1 with tu := tu2, u := u2, ty := ty' } g' .nil), trivial, ⟨⟨rfl, rfl, rfl, rfl, rfl, h1, rfl, rfl⟩, h2, ⟨rfl, rfl, rfl, rfl, rfl, h1', rfl, rfl⟩, h2', trivial⟩, tyV_nil.2 ⟨none, 0, rfl⟩, ?_⟩
  refine teV_cons.2 ⟨w.heap.size, 0, 2, rfl, by simp [Te.len], by unfold maxLen; omega, by omega, teC_cons.2 ⟨NdAt.of_cells fun j v hv => ?_, h3, h4, teC_cons.2 ⟨NdAt.of_cells fun j v hv => ?_, h3', h4', teC_nil⟩⟩⟩
  · rw [Nat.zero_add, cell_of_row W _ j _ _ (0, 0) hkr]
    have hj : j < 9 := (List.getElem?_eq_some_iff.1 hv).1
    simp only [List.getElem?_toArray]
    rw [List.getElem?_append_left (by rw [ndC_len]; exact hj)]
    exact hv
  · have hj : j < 9 := (List.getElem?_eq_some_iff.1 hv).1
    rw [cell_of_row W _ (0 + 9 + j) _ _ (0, 0) hkr]
    simp only [List.getElem?_toArray]
    rw [List.getElem?_append_right (by rw [ndC_len]; omega), ndC_len, show 0 + 9 + j - 9 = j by omega]
    exact hv
/-- What term.Apply gives. -/
def ApIs (F : Te) (w : World) (e : Ending) (w' : World) : Prop := Below w.heap.size w w' ∧ ∃ tu u : Sl, e = .returned (teVal { (applT F.top).1 with tu := tu, u := u }) ∧ FreshM (w.heap.size + 2) w'.heap.size w' (applT F.top).1 (applT F.top).2 tu u
set_option maxRecDepth 100000 in
set_option maxHeartbeats 4000000 in
theorem apply_any (w : World) (F : Te) (v : Value) (hF : TeV w.heap.size w F v) (hl : F.len ≤ 100) (hs : F.size < 1000000) (hP : F.tyb) :
    Calls Try.prog 15 #[v] w (ApIs F w) := by
  obtain ⟨A, c, rfl⟩ := hF.slice
  obtain ⟨w1, hw1⟩ : ∃ w1, (w.alloc (Obj.cells ert0 29)).alloc (Obj.cells ert0 29) = w1 := ⟨_, rfl⟩
  have hs1 : w1.heap.size = w.heap.size + 2 := by rw [← hw1]; simp
  have hb1 : Below w.heap.size w w1 := by rw [← hw1]; exact ((Below.refl _ _).alloc (Nat.le_refl _) _).alloc (by simp) _
  have hk0 : w1.heap[w.heap.size]? = some (Obj.cells ert0 29) := by rw [← hw1]; exact (Below.heap_alloc _ _ _ (by simp)).trans (heap_alloc_new _ _)
  have hk1 : w1.heap[w.heap.size + 1]? = some (Obj.cells ert0 29) := by
    have := heap_alloc_new (w.alloc (Obj.cells ert0 29)) (Obj.cells ert0 29)
    rwa [hw1, World.size_alloc] at this
  have hap0 : ApB w (applT (F.top.take 0)) w1 := ⟨(none, 0, 0), (none, 0, 0), hk1, ⟨Nat.le_refl _, fun W _ _ => ⟨.nil, .nil, trivial, trivial, tyV_nil.2 ⟨none, 0, rfl⟩, teV_nil.2 ⟨none, 0, rfl⟩⟩⟩⟩
  obtain ⟨q, hq⟩ : ∃ q, F.len = q := ⟨_, rfl⟩
  have hCP : ∀ (W : World) (j : Nat), j < F.len → Below w.heap.size w W → Calls Try.prog 18 #[teVal (F.at_ j).1] W fun e w' => ∃ tu u : Sl, e = .returned (teVal { (F.at_ j).1 with tu := tu, u := u }) ∧ Below W.heap.size W w' ∧ FreshE W.heap.size w' (F.at_ j).1 (F.at_ j).2 tu u := fun W j hj hb => by
    have hz := F.at_size j hj
    have hp := Te.tyb_pre hP (F.at_ j) (Te.at_pre F j hj)
    obtain ⟨b, off, cap, _, _, _, _, hC⟩ := hF.form (by omega)
    exact ecopy_any W _ _ ((teC_at hC j hj).2.up hb hb.size) (by omega) hp.1 hp.2
  have HF := Lib.hid hF
  have HCP := Lib.hid hCP
  have HQ := Lib.hid hq
  have HW1 := Lib.hid (And.intro hw1 (And.intro hb1 (And.intro hs1 (And.intro hk0 hap0))))
  rw [hq] at hl ⊢
  clear hF hCP hq hw1 hb1 hs1 hk0 hk1 hap0 hP
  dsimp only [ert0] at HW1
  go_enter Try.func15, Try.ntmps15
  go_wp2_with fail
  rw [HW1.out.1]
  go_loopw [8] (fun t8 wr => ∃ j : Nat, j ≤ q ∧ t8 = .int .i64 j ∧ ApB w (applT (F.top.take j)) wr ∧ wr.heap[w.heap.size]? = some (Obj.cells ert0 29) ∧ Below w.heap.size w wr ∧ w.heap.size + 2 ≤ wr.heap.size) (fun t _ => q - (intOf t).toNat)
  case atStart =>
    obtain ⟨_, h2, h3, h4, h5⟩ := HW1.out
    exact ⟨0, Nat.zero_le _, rfl, h5, h4, h2, by omega⟩
  case round =>
    obtain ⟨j, hj, rfl, ⟨tu, u, hbox, hfr⟩, hres, hb, hz⟩ := hrel
    obtain ⟨AT, hAT⟩ : ∃ AT, applT (F.top.take j) = AT := ⟨_, rfl⟩
    rw [hAT] at hbox hfr
    obtain ⟨N, hN⟩ : ∃ N : Nd, { AT.1 with tu := tu, u := u } = N := ⟨_, rfl⟩
    rw [hN] at hbox
    have hNu : N.tu = tu ∧ N.u = u := by rw [← hN]; exact ⟨rfl, rfl⟩
    obtain ⟨a0, a1, a2, a3, a4, ⟨au1, au2, au3⟩, a6, ⟨av1, av2, av3⟩, a8, a9⟩ := N
    dsimp only at hNu
    obtain ⟨rfl, rfl⟩ := hNu
    dsimp only [ndC, slv] at hbox
    obtain ⟨d0, d1, d2, d3, d4, d5, d6, d7, d8⟩ : NdAt wr (w.heap.size + 1) 0 ⟨a0, a1, a2, a3, a4, (au1, au2, au3), a6, (av1, av2, av3), a8, a9⟩ := NdAt.of_block (T := 29) hbox
    dsimp only [slv] at d5 d6
    simp only [Nat.zero_add] at d0 d1 d2 d3 d4 d5 d6 d7 d8
    have HBOX := Lib.hid (And.intro hbox (And.intro hfr (And.intro hres (And.intro hN hAT))))
    have HB := Lib.hid hb
    clear hbox hfr hres hN hAT
    by_cases hjl : j < q
    · have hjf : j < F.len := by rw [HQ.out]; exact hjl
      obtain ⟨b, off, cap, hv, _, _, hlt, hC⟩ := HF.out.form (by omega)
      injection hv with hA hmid hcc
      clear hmid
      subst hA; subst hcc
      obtain ⟨n1, hch⟩ := teC_at hC j hjf
      have m1 := NdAt.below (B := w.heap.size) n1 hb hlt
      have hcp := fun W hbW => HCP.out W j hjf hbW
      have HTOP := Lib.hid (Te.top_at F j hjf)
      clear n1 hC hch hb
      generalize F.at_ j = p at *
      obtain ⟨⟨y0, y1, y2, y3, y4, ⟨yu1, yu2, yu3⟩, y6, ⟨yv1, yv2, yv3⟩, y8, y9⟩, yp⟩ := p
      dsimp only [teVal, slv] at hcp
      obtain ⟨c0, c1, c2, c3, c4, c5, c6, c7, c8⟩ := m1
      dsimp only [slv] at c5 c6
      obtain ⟨W5, hW5⟩ : ∃ W5, wr.alloc (Obj.cells #[.int .i64 y0, .string y1, .int .i64 y2, .int .i64 y3, .int .i64 y4, .slice yu1 yu2 yu3, .slice yv1 yv2 yv3, .int .i64 y8, .int .i64 y9] 29) = W5 := ⟨_, rfl⟩
      have hb5 : Below wr.heap.size wr W5 := by rw [← hW5]; exact (Below.refl _ _).alloc (Nat.le_refl _) _
      have hs5 : W5.heap.size = wr.heap.size + 1 := by rw [← hW5]; simp
      have hc5 := hcp W5 (HB.out.trans (hb5.mono HB.out.size))
      rw [← hW5] at hc5
      have HC5 := Lib.hid hc5
      have HCP2 := Lib.hid hcp
      have HW5 := Lib.hid (And.intro hW5 (And.intro hb5 hs5))
      clear hc5 hcp hW5 hb5 hs5 hjf
      by_cases hj0 : j = 0
      · subst hj0
        simp only [Nat.zero_mul, Nat.add_zero] at c0 c1 c2 c3 c4 c5 c6 c7 c8
        go_wp2_with fail
        refine HC5.out.mono ?_
        rintro e w6 ⟨⟨v1, v2, v3⟩, ⟨s1, s2, s3⟩, rfl, hb6, hf6⟩
        rw [HW5.out.1] at hb6 hf6
        have hs5 := HW5.out.2.2
        have hb56 := HW5.out.2.1.trans (hb6.mono (by omega))
        have hbx6 := (hb56.block _ (Array.getElem?_eq_some_iff.1 HBOX.out.1).1).trans HBOX.out.1
        have f0 := frozen_cells hbx6 0
        have f1 := frozen_cells hbx6 1
        have f2 := frozen_cells hbx6 2
        have f3 := frozen_cells hbx6 3
        have f4 := frozen_cells hbx6 4
        have f5 := frozen_cells hbx6 5
        have f6 := frozen_cells hbx6 6
        have f7 := frozen_cells hbx6 7
        have f8 := frozen_cells hbx6 8
        obtain ⟨e0, e1, e2, e3, e4, e5, e6, e7, e8⟩ : NdAt w6 (w.heap.size + 1) 0 ⟨a0, a1, a2, a3, a4, (au1, au2, au3), a6, (av1, av2, av3), a8, a9⟩ := NdAt.of_block (T := 29) hbx6
        dsimp only [slv] at e5 e6
        simp only [Nat.zero_add] at e0 e1 e2 e3 e4 e5 e6 e7 e8
        obtain ⟨WF, hWF⟩ : ∃ WF, (((((((((w6.setCell ⟨w.heap.size + 1, 0, none⟩ (.int .i64 y0)).setCell ⟨w.heap.size + 1, 1, none⟩ (.string y1)).setCell ⟨w.heap.size + 1, 2, none⟩ (.int .i64 y2)).setCell ⟨w.heap.size + 1, 3, none⟩ (.int .i64 y3)).setCell ⟨w.heap.size + 1, 4, none⟩ (.int .i64 y4)).setCell ⟨w.heap.size + 1, 5, none⟩ (.slice v1 v2 v3)).setCell ⟨w.heap.size + 1, 6, none⟩ (.slice s1 s2 s3)).setCell ⟨w.heap.size + 1, 7, none⟩ (.int .i64 y8)).setCell ⟨w.heap.size + 1, 8, none⟩ (.int .i64 y9)) = WF := ⟨_, rfl⟩
        have hwf := set9_block (g := w.heap.size + 1) ⟨y0, y1, y2, y3, y4, (v1, v2, v3), y6, (s1, s2, s3), y8, y9⟩ hbx6
        dsimp only [slv] at hwf
        rw [hWF] at hwf
        have HWF := Lib.hid (And.intro hwf (And.intro hb56 (And.intro hb6 hf6)))
        clear hwf hb56 hb6 hf6 hbx6 d0 d1 d2 d3 d4 d5 d6 d7 d8 c0 c1 c2 c3 c4 c5 c6 c7 c8
        go_wp2_with fail
        go_roundw
        case rel =>
          obtain ⟨⟨q1, q2, q3, q4⟩, hb56, hb6, hf6⟩ := HWF.out
          have hz6 := hb6.size
          refine ⟨1, by omega, by go_num, ⟨(v1, v2, v3), (s1, s2, s3), ?_, ?_⟩, ?_, ?_, by omega⟩
          · rw [show applT (F.top.take 1) = ((⟨y0, y1, y2, y3, y4, (yu1, yu2, yu3), y6, (yv1, yv2, yv3), y8, y9⟩ : Nd), yp) by rw [HTOP.out]; rfl]
            exact q1
          · rw [show applT (F.top.take 1) = ((⟨y0, y1, y2, y3, y4, (yu1, yu2, yu3), y6, (yv1, yv2, yv3), y8, y9⟩ : Nd), yp) by rw [HTOP.out]; rfl]
            exact ((FreshE.at hf6).to (by omega) fun b o h1 h2 h3 _ => (q3 b (by omega)).trans h3).up (by omega) (by omega) (Nat.le_refl _)
          · rw [q3 _ (by omega)]
            exact (hb56.block _ (Array.getElem?_eq_some_iff.1 HBOX.out.2.2.1).1).trans HBOX.out.2.2.1
          · exact HB.out.trans ((hb56.mono (by omega)).trans (q4.mono (by omega)))
        case measure => simp [intOf]; omega
      · have fj : ((j : Int) == 0) = false := beq_eq_false_iff_ne.2 (by omega)
        go_wp2_with fail
        rw [HW5.out.1]
        have hcd := HCP2.out W5.drew (HB.out.trans ((HW5.out.2.1.mono HB.out.size).drew))
        have HCD := Lib.hid hcd
        have hy5 : W5.heap[wr.heap.size]? = some (Obj.cells #[.int .i64 y0, .string y1, .int .i64 y2, .int .i64 y3, .int .i64 y4, .slice yu1 yu2 yu3, .slice yv1 yv2 yv3, .int .i64 y8, .int .i64 y9] 29) := by rw [← HW5.out.1]; exact heap_alloc_new _ _
        obtain ⟨S0, hS0⟩ : ∃ S0 : World → Prop, S0 = fun W => W.heap[wr.heap.size]? = some (Obj.cells #[.int .i64 y0, .string y1, .int .i64 y2, .int .i64 y3, .int .i64 y4, .slice yu1 yu2 yu3, .slice yv1 yv2 yv3, .int .i64 y8, .int .i64 y9] 29) := ⟨_, rfl⟩
        have hS5 : S0 W5.drew := by rw [hS0]; exact hy5
        have EX := Lib.hid (show ∀ W, S0 W → NdAt W wr.heap.size 0 ⟨y0, y1, y2, y3, y4, (yu1, yu2, yu3), y6, (yv1, yv2, yv3), y8, y9⟩ from fun W hW => by rw [hS0] at hW; exact NdAt.of_block (T := 29) hW)
        have ST := Lib.hid (show ∀ W W', S0 W → Below W.heap.size W W' → S0 W' from fun W W' hW hb => by rw [hS0] at hW ⊢; exact (hb.block _ (Array.getElem?_eq_some_iff.1 hW).1).trans hW)
        have SS := Lib.hid hS0
        have hbx5 : W5.heap[w.heap.size + 1]? = some (Obj.cells #[.int .i64 a0, .string a1, .int .i64 a2, .int .i64 a3, .int .i64 a4, .slice au1 au2 au3, .slice av1 av2 av3, .int .i64 a8, .int .i64 a9] 29) := (HW5.out.2.1.block _ (Array.getElem?_eq_some_iff.1 HBOX.out.1).1).trans HBOX.out.1
        have HB5 := Lib.hid hbx5
        clear hcd hy5 hS0 hbx5 d0 d1 d2 d3 d4 d5 d6 d7 d8 c0 c1 c2 c3 c4 c5 c6 c7 c8
        refine wp_region_held (S := S0) (by kernel_rfl) ?_
        change wpAnyH _ _ _ _ _ 6 (List.replicate 6 false).toArray _ W5.drew
        simp only [List.replicate_succ, List.replicate_zero]
        refine any_take (i := 1) (some 18) (.agg #[.int .i64 y0, .string y1, .int .i64 y2, .int .i64 y3, .int .i64 y4, .slice yu1 yu2 yu3, .slice yv1 yv2 yv3, .int .i64 y8, .int .i64 y9]) rfl (by rfl) (by kernel_rfl) (by kernel_rfl) (by kernel_rfl) (fun _ _ _ h => h) (Or.inl ⟨by kernel_rfl, (fun W hw => by obtain ⟨c0, c1, c2, c3, c4, c5, c6, c7, c8⟩ := EX.out W hw; dsimp only [slv] at c5 c6; simp only [Nat.zero_add] at c0 c1 c2 c3 c4 c5 c6 c7 c8; clear hw; go_simp)⟩) hS5 ?_
        simp only [Act.put, List.setIfInBounds_toArray, List.set_cons_zero, List.set_cons_succ]
        refine wpAnyH_all (rs := [0, 2]) (by kernel_rfl) (by simp) fun q' hq' => ?_
        rcases (by simpa using hq' : q' = 0 ∨ q' = 2) with rfl | rfl
        · obtain ⟨d0, d1, d2, d3, d4, d5, d6, d7, d8⟩ : NdAt W5.drew (w.heap.size + 1) 0 ⟨a0, a1, a2, a3, a4, (au1, au2, au3), a6, (av1, av2, av3), a8, a9⟩ := NdAt.of_block (T := 29) HB5.out
          dsimp only [slv] at d5 d6
          simp only [Nat.zero_add] at d0 d1 d2 d3 d4 d5 d6 d7 d8
          refine ops_val (d := some 17) (v := .agg #[.int .i64 a0, .string a1, .int .i64 a2, .int .i64 a3, .int .i64 a4, .slice au1 au2 au3, .slice av1 av2 av3, .int .i64 a8, .int .i64 a9]) rfl (by rfl) (by kernel_rfl) (by go_simp) hS5 ?_
          simp only [Act.put, List.setIfInBounds_toArray, List.set_cons_zero, List.set_cons_succ]
          clear d0 d1 d2 d3 d4 d5 d6 d7 d8
          refine wpAnyH_all (rs := [2]) (by kernel_rfl) (by simp) fun q' hq' => ?_
          obtain rfl : q' = 2 := by simpa using hq'
          refine ops_call (d := some 19) rfl (by rfl) (by kernel_rfl) (by go_simp) (HCD.out.mono ?_)
          rintro e w6 ⟨⟨v1, v2, v3⟩, ⟨s1, s2, s3⟩, rfl, hb6, hf6⟩
          have hS6 := ST.out _ _ hS5 hb6
          refine ⟨_, rfl, hS6, ?_⟩
          simp only [Act.put, List.setIfInBounds_toArray, List.set_cons_zero, List.set_cons_succ]
          obtain ⟨w7, hw7⟩ : ∃ w7, w6.alloc (Obj.cells #[.int .i64 a0, .string a1, .int .i64 a2, .int .i64 a3, .int .i64 a4, .slice au1 au2 au3, .slice av1 av2 av3, .int .i64 a8, .int .i64 a9, .int .i64 y0, .string y1, .int .i64 y2, .int .i64 y3, .int .i64 y4, .slice v1 v2 v3, .slice s1 s2 s3, .int .i64 y8, .int .i64 y9] 29) = w7 := ⟨_, rfl⟩
          have hb67 : Below w6.heap.size w6 w7 := by rw [← hw7]; exact (Below.refl _ _).alloc (Nat.le_refl _) _
          have hb57 : Below W5.heap.size W5 w7 := (Below.refl W5.heap.size W5).drew.trans (hb6.trans (hb67.mono hb6.size))
          have hS7 := ST.out _ _ hS6 hb67
          have hbx7 := (hb57.block _ (Array.getElem?_eq_some_iff.1 HB5.out).1).trans HB5.out
          obtain ⟨e0, e1, e2, e3, e4, e5, e6, e7, e8⟩ : NdAt w7 (w.heap.size + 1) 0 ⟨a0, a1, a2, a3, a4, (au1, au2, au3), a6, (av1, av2, av3), a8, a9⟩ := NdAt.of_block (T := 29) hbx7
          dsimp only [slv] at e5 e6
          simp only [Nat.zero_add] at e0 e1 e2 e3 e4 e5 e6 e7 e8
          have f0 := frozen_cells hbx7 0
          have f1 := frozen_cells hbx7 1
          have f2 := frozen_cells hbx7 2
          have f3 := frozen_cells hbx7 3
          have f4 := frozen_cells hbx7 4
          have f5 := frozen_cells hbx7 5
          have f6 := frozen_cells hbx7 6
          have f7 := frozen_cells hbx7 7
          have f8 := frozen_cells hbx7 8
          obtain ⟨WF, hWF⟩ : ∃ WF, (((((((((w7.setCell ⟨w.heap.size + 1, 0, none⟩ (.int .i64 5)).setCell ⟨w.heap.size + 1, 1, none⟩ (.string ⟨#[]⟩)).setCell ⟨w.heap.size + 1, 2, none⟩ (.int .i64 0)).setCell ⟨w.heap.size + 1, 3, none⟩ (.int .i64 0)).setCell ⟨w.heap.size + 1, 4, none⟩ (.int .i64 0)).setCell ⟨w.heap.size + 1, 5, none⟩ (.slice none 0 0)).setCell ⟨w.heap.size + 1, 6, none⟩ (.slice (some ⟨w6.heap.size, 0, none⟩) 2 2)).setCell ⟨w.heap.size + 1, 7, none⟩ (.int .i64 0)).setCell ⟨w.heap.size + 1, 8, none⟩ (.int .i64 0)) = WF := ⟨_, rfl⟩
          have hwf := set9_block (g := w.heap.size + 1) ⟨5, ⟨#[]⟩, 0, 0, 0, (none, 0, 0), .nil, (some ⟨w6.heap.size, 0, none⟩, 2, 2), 0, 0⟩ hbx7
          dsimp only [slv] at hwf
          rw [hWF] at hwf
          have hS8 : S0 WF := by
            rw [SS.out] at hS7 ⊢
            exact (hwf.2.2.1 _ (by have := HW5.out.2.2; have := HBOX.out.2.1.1; omega)).trans hS7
          have HWF := Lib.hid (And.intro hwf (And.intro hb57 (And.intro hb6 (And.intro hf6 hw7))))
          have HW7 := Lib.hid hw7
          have HWFE := Lib.hid hWF
          clear hwf hb57 hb6 hf6 hbx7 hw7 hb67 hWF
          refine wpAnyH_all (rs := [3]) (by kernel_rfl) (by simp) fun q' hq' => ?_
          obtain rfl : q' = 3 := by simpa using hq'
          refine ops_val (d := some 20) (v := .slice (some ⟨w6.heap.size, 0, none⟩) 2 2) (w' := w7) rfl (by rfl) (by kernel_rfl) (by rw [← HW7.out]; go_simp) hS7 ?_
          simp only [Act.put, List.setIfInBounds_toArray, List.set_cons_zero, List.set_cons_succ]
          refine wpAnyH_all (rs := [4]) (by kernel_rfl) (by simp) fun q' hq' => ?_
          obtain rfl : q' = 4 := by simpa using hq'
          refine ops_val (d := some 21) (v := .agg #[.int .i64 5, .string ⟨#[]⟩, .int .i64 0, .int .i64 0, .int .i64 0, .slice none 0 0, .slice (some ⟨w6.heap.size, 0, none⟩) 2 2, .int .i64 0, .int .i64 0]) (w' := w7) rfl (by rfl) (by kernel_rfl) (by go_simp) hS7 ?_
          simp only [Act.put, List.setIfInBounds_toArray, List.set_cons_zero, List.set_cons_succ]
          refine wpAnyH_all (rs := [5]) (by kernel_rfl) (by simp) fun q' hq' => ?_
          obtain rfl : q' = 5 := by simpa using hq'
          refine ops_skip (w' := WF) rfl (by kernel_rfl) (by rw [← HWFE.out]; go_simp) hS8 rfl ?_
          clear e0 e1 e2 e3 e4 e5 e6 e7 e8 f0 f1 f2 f3 f4 f5 f6 f7 f8
          refine wpAnyH_done (by kernel_rfl) ?_ _
          go_wp2_with fail
          go_roundw
          case rel =>
            obtain ⟨⟨q1, q2, q3, q4⟩, hb57, hb6, hf6, hw7⟩ := HWF.out
            obtain ⟨_, hfr, hres, hN, hAT⟩ := HBOX.out
            have hz6 : W5.heap.size ≤ w6.heap.size := hb6.size
            have hs5 := HW5.out.2.2
            have hb47 := HW5.out.2.1.trans (hb57.mono (by omega))
            have hb46 : Below wr.heap.size wr w6 := HW5.out.2.1.trans (((Below.refl W5.heap.size W5).drew.trans hb6).mono (by omega))
            have hap : applT (F.top.take (j + 1)) = ap2 AT ((⟨y0, y1, y2, y3, y4, (yu1, yu2, yu3), y6, (yv1, yv2, yv3), y8, y9⟩ : Nd), yp) := by
              rw [HTOP.out, applT_snoc _ _ (fun e => ?_), hAT]
              have := congrArg List.length e
              rw [List.length_take, Te.top_len, HQ.out, List.length_nil] at this
              omega
            have hs7 : w7.heap.size = w6.heap.size + 1 := by rw [← hw7]; simp
            have hfa : FreshM (w.heap.size + 2) w6.heap.size w6 AT.1 AT.2 (au1, au2, au3) (av1, av2, av3) := (hfr.below hb46).up (Nat.le_refl _) hb46.size (Nat.le_refl _)
            have hft : FreshM (w.heap.size + 2) w6.heap.size w6 ⟨y0, y1, y2, y3, y4, (yu1, yu2, yu3), y6, (yv1, yv2, yv3), y8, y9⟩ yp (v1, v2, v3) (s1, s2, s3) := (FreshE.at hf6).up (by simp only [World.size_drew]; omega) (Nat.le_refl _) (Nat.le_refl _)
            have h2 := two_fresh (t := ((⟨y0, y1, y2, y3, y4, (yu1, yu2, yu3), y6, (yv1, yv2, yv3), y8, y9⟩ : Nd), yp)) (by omega) hfa hft (w' := w7) (by rw [hN]; exact hw7)
            refine ⟨j + 1, by omega, by go_num, ⟨(none, 0, 0), (some ⟨w6.heap.size, 0, none⟩, 2, 2), ?_, ?_⟩, ?_, ?_, by omega⟩
            · rw [hap]; exact q1
            · rw [hap]
              exact (h2.to (by omega) fun b o h1 h2 h3 _ => (q3 b (by omega)).trans h3).up (Nat.le_refl _) (by omega) (Nat.le_refl _)
            · rw [q3 _ (by omega)]
              exact (hb47.block _ (Array.getElem?_eq_some_iff.1 hres).1).trans hres
            · exact HB.out.trans ((hb47.mono (by omega)).trans (q4.mono (by omega)))
          case measure => simp [intOf]; omega
        · refine ops_call (d := some 19) rfl (by rfl) (by kernel_rfl) (by go_simp) (HCD.out.mono ?_)
          rintro e w6 ⟨⟨v1, v2, v3⟩, ⟨s1, s2, s3⟩, rfl, hb6, hf6⟩
          have hS6 := ST.out _ _ hS5 hb6
          refine ⟨_, rfl, hS6, ?_⟩
          simp only [Act.put, List.setIfInBounds_toArray, List.set_cons_zero, List.set_cons_succ]
          obtain ⟨d0, d1, d2, d3, d4, d5, d6, d7, d8⟩ : NdAt w6 (w.heap.size + 1) 0 ⟨a0, a1, a2, a3, a4, (au1, au2, au3), a6, (av1, av2, av3), a8, a9⟩ := NdAt.of_block (T := 29) ((hb6.block _ (Array.getElem?_eq_some_iff.1 HB5.out).1).trans HB5.out)
          dsimp only [slv] at d5 d6
          simp only [Nat.zero_add] at d0 d1 d2 d3 d4 d5 d6 d7 d8
          refine wpAnyH_all (rs := [0]) (by kernel_rfl) (by simp) fun q' hq' => ?_
          obtain rfl : q' = 0 := by simpa using hq'
          refine ops_val (d := some 17) (v := .agg #[.int .i64 a0, .string a1, .int .i64 a2, .int .i64 a3, .int .i64 a4, .slice au1 au2 au3, .slice av1 av2 av3, .int .i64 a8, .int .i64 a9]) rfl (by rfl) (by kernel_rfl) (by go_simp) hS6 ?_
          simp only [Act.put, List.setIfInBounds_toArray, List.set_cons_zero, List.set_cons_succ]
          clear d0 d1 d2 d3 d4 d5 d6 d7 d8
          obtain ⟨w7, hw7⟩ : ∃ w7, w6.alloc (Obj.cells #[.int .i64 a0, .string a1, .int .i64 a2, .int .i64 a3, .int .i64 a4, .slice au1 au2 au3, .slice av1 av2 av3, .int .i64 a8, .int .i64 a9, .int .i64 y0, .string y1, .int .i64 y2, .int .i64 y3, .int .i64 y4, .slice v1 v2 v3, .slice s1 s2 s3, .int .i64 y8, .int .i64 y9] 29) = w7 := ⟨_, rfl⟩
          have hb67 : Below w6.heap.size w6 w7 := by rw [← hw7]; exact (Below.refl _ _).alloc (Nat.le_refl _) _
          have hb57 : Below W5.heap.size W5 w7 := (Below.refl W5.heap.size W5).drew.trans (hb6.trans (hb67.mono hb6.size))
          have hS7 := ST.out _ _ hS6 hb67
          have hbx7 := (hb57.block _ (Array.getElem?_eq_some_iff.1 HB5.out).1).trans HB5.out
          obtain ⟨e0, e1, e2, e3, e4, e5, e6, e7, e8⟩ : NdAt w7 (w.heap.size + 1) 0 ⟨a0, a1, a2, a3, a4, (au1, au2, au3), a6, (av1, av2, av3), a8, a9⟩ := NdAt.of_block (T := 29) hbx7
          dsimp only [slv] at e5 e6
          simp only [Nat.zero_add] at e0 e1 e2 e3 e4 e5 e6 e7 e8
          have f0 := frozen_cells hbx7 0
          have f1 := frozen_cells hbx7 1
          have f2 := frozen_cells hbx7 2
          have f3 := frozen_cells hbx7 3
          have f4 := frozen_cells hbx7 4
          have f5 := frozen_cells hbx7 5
          have f6 := frozen_cells hbx7 6
          have f7 := frozen_cells hbx7 7
          have f8 := frozen_cells hbx7 8
          obtain ⟨WF, hWF⟩ : ∃ WF, (((((((((w7.setCell ⟨w.heap.size + 1, 0, none⟩ (.int .i64 5)).setCell ⟨w.heap.size + 1, 1, none⟩ (.string ⟨#[]⟩)).setCell ⟨w.heap.size + 1, 2, none⟩ (.int .i64 0)).setCell ⟨w.heap.size + 1, 3, none⟩ (.int .i64 0)).setCell ⟨w.heap.size + 1, 4, none⟩ (.int .i64 0)).setCell ⟨w.heap.size + 1, 5, none⟩ (.slice none 0 0)).setCell ⟨w.heap.size + 1, 6, none⟩ (.slice (some ⟨w6.heap.size, 0, none⟩) 2 2)).setCell ⟨w.heap.size + 1, 7, none⟩ (.int .i64 0)).setCell ⟨w.heap.size + 1, 8, none⟩ (.int .i64 0)) = WF := ⟨_, rfl⟩
          have hwf := set9_block (g := w.heap.size + 1) ⟨5, ⟨#[]⟩, 0, 0, 0, (none, 0, 0), .nil, (some ⟨w6.heap.size, 0, none⟩, 2, 2), 0, 0⟩ hbx7
          dsimp only [slv] at hwf
          rw [hWF] at hwf
          have hS8 : S0 WF := by
            rw [SS.out] at hS7 ⊢
            exact (hwf.2.2.1 _ (by have := HW5.out.2.2; have := HBOX.out.2.1.1; omega)).trans hS7
          have HWF := Lib.hid (And.intro hwf (And.intro hb57 (And.intro hb6 (And.intro hf6 hw7))))
          have HW7 := Lib.hid hw7
          have HWFE := Lib.hid hWF
          clear hwf hb57 hb6 hf6 hbx7 hw7 hb67 hWF
          refine wpAnyH_all (rs := [3]) (by kernel_rfl) (by simp) fun q' hq' => ?_
          obtain rfl : q' = 3 := by simpa using hq'
          refine ops_val (d := some 20) (v := .slice (some ⟨w6.heap.size, 0, none⟩) 2 2) (w' := w7) rfl (by rfl) (by kernel_rfl) (by rw [← HW7.out]; go_simp) hS7 ?_
          simp only [Act.put, List.setIfInBounds_toArray, List.set_cons_zero, List.set_cons_succ]
          refine wpAnyH_all (rs := [4]) (by kernel_rfl) (by simp) fun q' hq' => ?_
          obtain rfl : q' = 4 := by simpa using hq'
          refine ops_val (d := some 21) (v := .agg #[.int .i64 5, .string ⟨#[]⟩, .int .i64 0, .int .i64 0, .int .i64 0, .slice none 0 0, .slice (some ⟨w6.heap.size, 0, none⟩) 2 2, .int .i64 0, .int .i64 0]) (w' := w7) rfl (by rfl) (by kernel_rfl) (by go_simp) hS7 ?_
          simp only [Act.put, List.setIfInBounds_toArray, List.set_cons_zero, List.set_cons_succ]
          refine wpAnyH_all (rs := [5]) (by kernel_rfl) (by simp) fun q' hq' => ?_
          obtain rfl : q' = 5 := by simpa using hq'
          refine ops_skip (w' := WF) rfl (by kernel_rfl) (by rw [← HWFE.out]; go_simp) hS8 rfl ?_
          clear e0 e1 e2 e3 e4 e5 e6 e7 e8 f0 f1 f2 f3 f4 f5 f6 f7 f8
          refine wpAnyH_done (by kernel_rfl) ?_ _
          go_wp2_with fail
          go_roundw
          case rel =>
            obtain ⟨⟨q1, q2, q3, q4⟩, hb57, hb6, hf6, hw7⟩ := HWF.out
            obtain ⟨_, hfr, hres, hN, hAT⟩ := HBOX.out
            have hz6 : W5.heap.size ≤ w6.heap.size := hb6.size
            have hs5 := HW5.out.2.2
            have hb47 := HW5.out.2.1.trans (hb57.mono (by omega))
            have hb46 : Below wr.heap.size wr w6 := HW5.out.2.1.trans (((Below.refl W5.heap.size W5).drew.trans hb6).mono (by omega))
            have hap : applT (F.top.take (j + 1)) = ap2 AT ((⟨y0, y1, y2, y3, y4, (yu1, yu2, yu3), y6, (yv1, yv2, yv3), y8, y9⟩ : Nd), yp) := by
              rw [HTOP.out, applT_snoc _ _ (fun e => ?_), hAT]
              have := congrArg List.length e
              rw [List.length_take, Te.top_len, HQ.out, List.length_nil] at this
              omega
            have hs7 : w7.heap.size = w6.heap.size + 1 := by rw [← hw7]; simp
            have hfa : FreshM (w.heap.size + 2) w6.heap.size w6 AT.1 AT.2 (au1, au2, au3) (av1, av2, av3) := (hfr.below hb46).up (Nat.le_refl _) hb46.size (Nat.le_refl _)
            have hft : FreshM (w.heap.size + 2) w6.heap.size w6 ⟨y0, y1, y2, y3, y4, (yu1, yu2, yu3), y6, (yv1, yv2, yv3), y8, y9⟩ yp (v1, v2, v3) (s1, s2, s3) := (FreshE.at hf6).up (by simp only [World.size_drew]; omega) (Nat.le_refl _) (Nat.le_refl _)
            have h2 := two_fresh (t := ((⟨y0, y1, y2, y3, y4, (yu1, yu2, yu3), y6, (yv1, yv2, yv3), y8, y9⟩ : Nd), yp)) (by omega) hfa hft (w' := w7) (by rw [hN]; exact hw7)
            refine ⟨j + 1, by omega, by go_num, ⟨(none, 0, 0), (some ⟨w6.heap.size, 0, none⟩, 2, 2), ?_, ?_⟩, ?_, ?_, by omega⟩
            · rw [hap]; exact q1
            · rw [hap]
              exact (h2.to (by omega) fun b o h1 h2 h3 _ => (q3 b (by omega)).trans h3).up (Nat.le_refl _) (by omega) (Nat.le_refl _)
            · rw [q3 _ (by omega)]
              exact (hb47.block _ (Array.getElem?_eq_some_iff.1 hres).1).trans hres
            · exact HB.out.trans ((hb47.mono (by omega)).trans (q4.mono (by omega)))
          case measure => simp [intOf]; omega
    · obtain rfl : j = q := by omega
      have hres := HBOX.out.2.2.1
      obtain ⟨r0, r1, r2, r3, r4, r5, r6, r7, r8, z0, z1, z2, z3, z4, z5, z6, z7, z8⟩ := ert0_cells hres
      obtain ⟨WF, hWF⟩ : ∃ WF, (((((((((wr.setCell ⟨w.heap.size, 0, none⟩ (.int .i64 a0)).setCell ⟨w.heap.size, 1, none⟩ (.string a1)).setCell ⟨w.heap.size, 2, none⟩ (.int .i64 a2)).setCell ⟨w.heap.size, 3, none⟩ (.int .i64 a3)).setCell ⟨w.heap.size, 4, none⟩ (.int .i64 a4)).setCell ⟨w.heap.size, 5, none⟩ (.slice au1 au2 au3)).setCell ⟨w.heap.size, 6, none⟩ (.slice av1 av2 av3)).setCell ⟨w.heap.size, 7, none⟩ (.int .i64 a8)).setCell ⟨w.heap.size, 8, none⟩ (.int .i64 a9)) = WF := ⟨_, rfl⟩
      have hwf := set9_block (g := w.heap.size) ⟨a0, a1, a2, a3, a4, (au1, au2, au3), a6, (av1, av2, av3), a8, a9⟩ hres
      dsimp only [slv] at hwf
      rw [hWF] at hwf
      have nF := NdAt.of_block (x := ⟨a0, a1, a2, a3, a4, (au1, au2, au3), a6, (av1, av2, av3), a8, a9⟩) (T := 29) hwf.1
      have HNF := Lib.hid (load_te nF)
      have HWF := Lib.hid hwf
      clear hwf nF hres hb
      go_wp2_with fail
      have HNF' := HNF.out
      refine bodyPost_ret (results_box rfl _ _ _ _ rfl HNF') rfl ?_
      obtain ⟨q1, q2, q3, q4⟩ := HWF.out
      obtain ⟨_, hfr, _, hN, hAT⟩ := HBOX.out
      have htk : F.top.take j = F.top := by rw [← HQ.out, ← Te.top_len]; exact List.take_length
      rw [htk] at hAT
      refine ⟨HB.out.trans q4, (au1, au2, au3), (av1, av2, av3), ?_, ?_⟩
      · rw [hAT, hN]
      · rw [hAT]
        exact ((hfr.to (by omega) fun b o h1 h2 h3 _ => (q3 b (by omega)).trans h3).up (Nat.le_refl _) (by omega) (Nat.le_refl _))
end Go.Proofs.Ytfoangiphbmipaa
