/- Texts of one proof, one behind the other. -/
import Derived.Test.YtifdbmdfkhnojaaDoorMgSubstApplies27
import Derived.Test.YtifdbmdfkhnojaaDoorMgSubstApplies16
/- What a variable becomes; whether two do the same. -/
namespace Go.Proofs.YtifdbmdfkhnojaaDoor
open Go.RowKit Go.Shelf Go.Maps Go.WideShapes
/-- Are two types the same, told without places? -/
def eq3 (x y : Int × Int × Fo) : Bool := x.1 == y.1 && x.2.1 == y.2.1 && x.2.2.same y.2.2
theorem same_pure (f g : Fo) : f.same g = f.pure.same g.pure := by
  rw [Bool.eq_iff_iff, Fo.same_iff, Fo.same_iff, Fo.pure_pure, Fo.pure_pure]
theorem eq3_refl (x : Int × Int × Fo) : eq3 x x = true := by
  unfold eq3
  have : x.2.2.same x.2.2 = true := (Fo.same_iff _ _).2 rfl
  simp [this]
set_option maxHeartbeats 2000000 in
set_option maxRecDepth 100000 in
theorem of_bind (w : World) (l : List Bnd) (m : Value) (hm : MapV (mv l) w m) (hl : ∀ b ∈ l, TyV w.heap.size w b.2.2.2.2 (slv b.2.2.2.1)) (v : Int) (hv : (Lit.int .i64 v).wf = true) :
    Calls Tryd.prog 50 #[m, .int .i64 v] w fun e w' => ∃ (u : Sl) (g : Fo), e = .returned (tyVal (Fo.sub1 (sg l) 1 v .nil).1 (Fo.sub1 (sg l) 1 v .nil).2.1 (slv u)) ∧ Below w.heap.size w w' ∧ TyV w'.heap.size w' g (slv u) ∧ g.pure = (Fo.sub1 (sg l) 1 v .nil).2.2 := by
  obtain ⟨w1, hw1⟩ : ∃ w1, w.alloc (.cells #[.int .i64 0, .int .i64 0, .slice none 0 0] 25) = w1 := ⟨_, rfl⟩
  have hb1 : Below w.heap.size w w1 := by rw [← hw1]; exact (Below.refl _ _).alloc (Nat.le_refl _) _
  have hs1 : w1.heap.size = w.heap.size + 1 := by rw [← hw1]; simp
  have h1 : w1.heap[w.heap.size]? = some (.cells rt0 25) := by rw [← hw1]; exact heap_alloc_new _ _
  have hlk := (hm.below hb1).look_ok bindsTy v hv
  cases hf : fnd l v with
  | some b =>
    have hsg : sg l v = some (b.2.1, b.2.2.1, b.2.2.2.2.pure) := by unfold sg; rw [hf]; rfl
    have hsb : Fo.sub1 (sg l) 1 v .nil = (b.2.1, b.2.2.1, b.2.2.2.2.pure) := (Fo.sub1_has rfl hsg).trans (by simp [Fo.pure_pure])
    rw [hsb]
    have hmv : (mv l v).getD (tyVal 0 0 (.slice none 0 0)) = bdT b := by unfold mv; rw [hf]; rfl
    have hms : (mv l v).isSome = true := by unfold mv; rw [hf]; rfl
    rw [hmv, hms] at hlk
    have hty := hl b (fnd_mem hf)
    obtain ⟨bv, bk, bn, ⟨v1, v2, v3⟩, bps⟩ := b
    dsimp only [bdT, tyVal, slv] at hlk hty ⊢
    obtain ⟨w2, hw2⟩ : ∃ w2, w1.alloc (.cells #[.int .i64 bk, .int .i64 bn, .slice v1 v2 v3] 25) = w2 := ⟨_, rfl⟩
    have hb2 : Below w.heap.size w w2 := by rw [← hw2]; exact hb1.alloc hb1.size _
    have h2 : w2.heap[w.heap.size]? = some (.cells rt0 25) := by rw [← hw2]; exact (Below.heap_alloc _ _ _ (by omega)).trans h1
    have h3 : w2.heap[w1.heap.size]? = some (.cells #[.int .i64 bk, .int .i64 bn, .slice v1 v2 v3] 25) := by rw [← hw2]; exact heap_alloc_new _ _
    have e0 : w2.cell? ⟨w1.heap.size, 0, none⟩ = some (.int .i64 bk) := cell_of_row w2 _ 0 _ _ (0, 0) h3
    have e1 : w2.cell? ⟨w1.heap.size, 1, none⟩ = some (.int .i64 bn) := cell_of_row w2 _ 1 _ _ (0, 0) h3
    have e2 : w2.cell? ⟨w1.heap.size, 2, none⟩ = some (.slice v1 v2 v3) := cell_of_row w2 _ 2 _ _ (0, 0) h3
    obtain ⟨r0, r1, r2, z0, z1, z2, w4, hw4, hld, hs4, hfar, hb4⟩ := ret_cells (w := w2) w.heap.size bk bn (v1, v2, v3) h2
    have hfin : Below w.heap.size w w4 ∧ TyV w4.heap.size w4 bps (.slice v1 v2 v3) := ⟨hb2.trans hb4, hty.later (hb2.trans hb4)⟩
    have HL := Lib.hid hld
    have HF := Lib.hid hfin
    clear hfin hld hfar hb4 hb2 hb1 h1 h2 h3 hty hf hsg hsb hmv hms hm hl hs1 hs4
    dsimp only [slv] at hw4
    go_enter Tryd.func50, Tryd.ntmps50
    go_wp2_with fail
    refine bodyPost_ret (results_box rfl _ _ _ _ rfl HL.out) rfl ?_
    exact ⟨(v1, v2, v3), bps, rfl, HF.out.1, HF.out.2, rfl⟩
  | none =>
    have hsg : sg l v = none := by unfold sg; rw [hf]; rfl
    have hsb : Fo.sub1 (sg l) 1 v .nil = (1, v, .nil) := Fo.sub1_not fun _ => hsg
    rw [hsb]
    have hmv : (mv l v).getD (tyVal 0 0 (.slice none 0 0)) = tyVal 0 0 (.slice none 0 0) := by unfold mv; rw [hf]; rfl
    have hms : (mv l v).isSome = false := by unfold mv; rw [hf]; rfl
    rw [hmv, hms] at hlk
    dsimp only [tyVal, slv] at hlk ⊢
    have hb2 : Below w.heap.size w (w1.alloc (.cells #[.int .i64 0, .int .i64 0, .slice none 0 0] 25)) := hb1.alloc hb1.size _
    have h2 : (w1.alloc (.cells #[.int .i64 0, .int .i64 0, .slice none 0 0] 25)).heap[w.heap.size]? = some (.cells rt0 25) := (Below.heap_alloc _ _ _ (by omega)).trans h1
    have hlt : w.heap.size < (w1.alloc (.cells #[.int .i64 0, .int .i64 0, .slice none 0 0] 25)).heap.size := by simp; omega
    have hvr := var_any v (w1.alloc (.cells #[.int .i64 0, .int .i64 0, .slice none 0 0] 25))
    dsimp only [tyVal] at hvr
    have HVR := Lib.hid hvr
    have H2 := Lib.hid h2
    have HB2 := Lib.hid hb2
    have HLT := Lib.hid hlt
    clear hlt hvr h1 h2 hb1 hb2 hf hsg hsb hmv hms hm hl hs1
    go_enter Tryd.func50, Tryd.ntmps50
    go_wp2_with fail
    refine HVR.out.mono ?_
    rintro e w3 ⟨rfl, hb3⟩
    obtain ⟨r0, r1, r2, z0, z1, z2, w4, hw4, hld, hs4, hfar, hb4⟩ := ret_cells (w := w3) w.heap.size 1 v (none, 0, 0) ((hb3.block _ HLT.out).trans H2.out)
    have hfin : Below w.heap.size w w4 := (HB2.out.trans (hb3.mono HB2.out.size)).trans hb4
    have HL := Lib.hid hld
    have HF := Lib.hid hfin
    clear hfin hld hfar hb4 hb3 HVR
    dsimp only [slv] at hw4
    go_wp2_with fail
    refine bodyPost_ret (results_box rfl _ _ _ _ rfl HL.out) rfl ?_
    exact ⟨(none, 0, 0), .nil, rfl, HF.out, no_parts _ _, rfl⟩
/-- Do two do the same to these variables? -/
def alikeV (a b : List Bnd) (vs : List Int) : Bool := vs.all fun v => eq3 (Fo.sub1 (sg a) 1 v .nil) (Fo.sub1 (sg b) 1 v .nil)
def asked (vs : List Int) : Int → Option Value := fun v => if v ∈ vs then some (.bool true) else none
theorem asked_getD (vs : List Int) (v : Int) : (asked vs v).getD (.bool false) = .bool (decide (v ∈ vs)) := by
  unfold asked
  by_cases h : v ∈ vs <;> simp [h]
theorem asked_snoc (vs : List Int) (x v : Int) : asked (vs ++ [x]) v = upd (asked vs) x (.bool true) v := by
  unfold asked upd
  by_cases h : v = x <;> simp [h]
theorem sub1_size (l : List Bnd) (S : Nat) (h : ∀ b ∈ l, 1 + b.2.2.2.2.size ≤ S) (hS : 1 ≤ S) (v : Int) : 1 + (Fo.sub1 (sg l) 1 v .nil).2.2.size ≤ S := by
  cases hf : fnd l v with
  | some b =>
    have hsg : sg l v = some (b.2.1, b.2.2.1, b.2.2.2.2.pure) := by unfold sg; rw [hf]; rfl
    rw [Fo.sub1_has rfl hsg]
    simp only [Fo.pure_size]
    exact h b (fnd_mem hf)
  | none =>
    have hsg : sg l v = none := by unfold sg; rw [hf]; rfl
    rw [Fo.sub1_not fun _ => hsg]
    simpa [Fo.sub, Fo.size] using hS
theorem BdG.tys {w : World} {l : List Bnd} {v : Value} {S : Nat} (h : BdG w l v S) : ∀ b ∈ l, TyV w.heap.size w b.2.2.2.2 (slv b.2.2.2.1) := by
  obtain ⟨_, _, _, _, h2⟩ := h.at_
  exact h2
set_option maxHeartbeats 4000000 in
set_option maxRecDepth 100000 in
theorem alike_bind (w : World) (a b : List Bnd) (va vb vv : Value) (vs : List Int) (ha : BdG w a va 1000000) (hb : BdG w b vb 1000000) (hR : Rd w 1 vv vs.length (ints vs)) (hvl : vs.length ≤ 100000) (hvw : ∀ v ∈ vs, (Lit.int .i64 v).wf = true) :
    Calls Tryd.prog 25 #[va, vb, vv] w fun e w' => e = .returned (.bool (alikeV a b vs)) ∧ Below w.heap.size w w' := by
  obtain ⟨A, c, rfl⟩ := ha.at_.form
  obtain ⟨B, d, rfl⟩ := hb.at_.form
  obtain ⟨AV, cv, rfl⟩ := hR.form
  have hba := byvar_any w w.heap.size a _ (Nat.le_refl _) ha.at_ ha.wf ha.len
  have HA := Lib.hid ha
  have HB := Lib.hid hb
  have HBA := Lib.hid hba
  have HR := Lib.hid hR
  have HVW := Lib.hid hvw
  clear ha hb hba hR hvw
  have hmm := @run_makeMap Tryd.prog
  go_enter Tryd.func25, Tryd.ntmps25
  go_wp2_with fail
  refine HBA.out.mono ?_
  clear HBA
  rintro e w1 ⟨ma, rfl, _, hma, hb1⟩
  have hbb := byvar_any w1 w1.heap.size b _ (Nat.le_refl _) (HB.out.later hb1).at_ HB.out.wf HB.out.len
  have HMA := Lib.hid hma
  have HB1 := Lib.hid hb1
  clear hma hb1
  go_wp2_with fail
  refine hbb.mono ?_
  clear hbb
  rintro e w2 ⟨mb, rfl, _, hmb, hb2⟩
  have hb02 := HB1.out.trans (hb2.mono HB1.out.size)
  have HMA2 := Lib.hid (HMA.out.below hb2)
  have HMB := Lib.hid hmb
  have HB2 := Lib.hid hb02
  have hb3 : Below w2.heap.size w2 (w2.alloc (Obj.map #[] 0)) := (Below.refl _ _).alloc (Nat.le_refl _) _
  have K1 := Lib.hid (MapF.made w2)
  have HB3 := Lib.hid hb3
  clear HMA hmb hb2 hb02 HB1 hb3
  go_wp2_with fail
  go_loopw [19] (fun s19 wr => ∃ j : Nat, s19 = .int .i64 j ∧ j ≤ vs.length ∧ alikeV a b (vs.take j) = true ∧ (∃ S, MapF (asked (vs.take j)) S j w2.heap.size wr) ∧ Below w2.heap.size w2 wr ∧ w2.heap.size + 1 ≤ wr.heap.size) (fun s _ => vs.length - (intOf s).toNat)
  case atStart => exact ⟨0, rfl, Nat.zero_le _, rfl, ⟨0, K1.out.ext fun n _ => by simp [asked]⟩, HB3.out, by simp⟩
  case round =>
    obtain ⟨j, rfl, hj, hal, ⟨S, hmp⟩, hb, hsz⟩ := hrel
    have hbw := HB2.out.trans (hb.mono HB2.out.size)
    by_cases hjl : j < vs.length
    · obtain ⟨_, hrd⟩ := HR.out
      rcases hrd with ⟨h0, _⟩ | ⟨gb, goff, gcap, he, _, _, hgb, hgat⟩
      · omega
      injection he with e1 _ e3
      subst e1; subst e3
      have g0 : wr.cell? ⟨gb, goff + j, none⟩ = some (.int .i64 vs[j]) := (hbw.cell (p := ⟨gb, goff + j, none⟩) hgb).trans (hgat j _ (by simp [ints, hjl]))
      have htk : vs.take (j + 1) = vs.take j ++ [vs[j]] := by rw [List.take_succ_eq_append_getElem hjl]
      have hw := HVW.out vs[j] (List.getElem_mem hjl)
      have hno : eq3 (Fo.sub1 (sg a) 1 vs[j] .nil) (Fo.sub1 (sg b) 1 vs[j] .nil) = false → alikeV a b vs = false := fun h => by
        unfold alikeV
        rw [List.all_eq_false]
        exact ⟨_, List.getElem_mem hjl, by simp [h]⟩
      obtain ⟨x, hx⟩ : ∃ x, vs[j] = x := ⟨_, rfl⟩
      rw [hx] at g0 htk hw hno
      have hlk := hmp.look boolsTy x hw
      rw [asked_getD] at hlk
      obtain ⟨W1, run1, m1, g1, o1, s1⟩ := hmp.put boolsTy (by omega) x hw (.bool true)
      have hyes : eq3 (Fo.sub1 (sg a) 1 x .nil) (Fo.sub1 (sg b) 1 x .nil) = true → alikeV a b (vs.take (j + 1)) = true := fun h => by
        rw [htk]; unfold alikeV at hal ⊢; rw [List.all_append, hal]; simp [h]
      by_cases hmem : x ∈ vs.take j
      · have hev : eq3 (Fo.sub1 (sg a) 1 x .nil) (Fo.sub1 (sg b) 1 x .nil) = true := by
          unfold alikeV at hal
          exact List.all_eq_true.1 hal x hmem
        rw [decide_eq_true hmem] at hlk
        have hfin : alikeV a b (vs.take (j + 1)) = true ∧ (∃ S, MapF (asked (vs.take (j + 1))) S (j + 1) w2.heap.size W1) ∧ Below w2.heap.size w2 W1 ∧ w2.heap.size + 1 ≤ W1.heap.size :=
          ⟨hyes hev, ⟨_, m1.ext fun n _ => by rw [htk, asked_snoc]⟩, hb.trans ((Below.refl _ _).grown g1 hb.size (fun k e => by cases e; exact Nat.le_refl _)), by omega⟩
        have HF := Lib.hid hfin
        clear hfin m1 g1 o1 s1 hyes hno hev hmem hal hmp hb hbw htk hw hgat hx
        go_wp2_with fail
        go_roundw
        case rel => exact ⟨j + 1, by go_num, by omega, HF.out.1, HF.out.2.1, HF.out.2.2.1, HF.out.2.2.2⟩
        case measure => simp [intOf]; omega
      · rw [decide_eq_false hmem] at hlk
        have h1 := of_bind wr a (.map (some ma)) (.inr ⟨ma, _, _, rfl, HMA2.out.below hb⟩) (HA.out.later hbw).tys x hw
        have hsza := sub1_size a 1000000 HA.out.size (by omega) x
        have hszb := sub1_size b 1000000 HB.out.size (by omega) x
        obtain ⟨KA, hKA⟩ : ∃ K, Fo.sub1 (sg a) 1 x .nil = K := ⟨_, rfl⟩
        obtain ⟨KB, hKB⟩ : ∃ K, Fo.sub1 (sg b) 1 x .nil = K := ⟨_, rfl⟩
        rw [hKA] at h1 hsza hyes hno
        rw [hKB] at hszb hyes hno
        have HBB := Lib.hid hb
        have HBW := Lib.hid hbw
        have HO := Lib.hid h1
        have HY := Lib.hid hyes
        have HN := Lib.hid hno
        have HTK := Lib.hid htk
        have HW := Lib.hid hw
        have HMP := Lib.hid hmp
        have HK := Lib.hid hKB
        have HX := Lib.hid hx
        clear h1 m1 g1 o1 s1 run1 hyes hno hal hmp hb hbw htk hw hgat hx hKA hKB hmem
        dsimp only [tyVal, slv] at HO
        go_wp2_with fail
        refine HO.out.mono ?_
        clear HO
        rintro e w3 ⟨⟨r1, r2, r3⟩, ga, rfl, hb3, hga, hgp⟩
        have h2 := of_bind w3 b (.map (some mb)) (.inr ⟨mb, _, _, rfl, HMB.out.below (HBB.out.trans (hb3.mono HBB.out.size))⟩) (HB.out.later (HBW.out.trans (hb3.mono HBW.out.size))).tys x HW.out
        rw [HK.out] at h2
        have HO := Lib.hid h2
        have HB3 := Lib.hid hb3
        have HGA := Lib.hid hga
        have HGP := Lib.hid hgp
        clear h2 hb3 hga hgp
        dsimp only [tyVal, slv] at HO
        go_wp2_with fail
        refine HO.out.mono ?_
        clear HO
        rintro e w4 ⟨⟨t1, t2, t3⟩, gb', rfl, hb4, hgb', hgp'⟩
        have hsm := same_any w4 KA.1 KA.2.1 KB.1 KB.2.1 (r1, r2, r3) (t1, t2, t3) ga gb' (HGA.out.later hb4) hgb' (by rw [← Fo.pure_size, HGP.out]; omega) (by rw [← Fo.pure_size, hgp']; omega)
        have hev : (KA.1 == KB.1 && KA.2.1 == KB.2.1 && ga.same gb') = eq3 KA KB := by
          unfold eq3
          rw [same_pure ga gb', HGP.out, hgp']
        rw [hev] at hsm
        have HS := Lib.hid hsm
        have HB4 := Lib.hid (HBB.out.trans ((HB3.out.trans (hb4.mono HB3.out.size)).mono HBB.out.size))
        have HM4 := Lib.hid (HMP.out.below (HB3.out.trans (hb4.mono HB3.out.size)))
        have HZ4 := Lib.hid (Nat.le_trans HB3.out.size hb4.size)
        clear hsm hev hb4 hgb' hgp' HGA HGP HB3 HMP
        dsimp only [tyVal, slv] at HS
        go_wp2_with fail
        refine HS.out.mono ?_
        clear HS
        rintro e w5 ⟨rfl, hb5⟩
        have hb25 := HB4.out.trans (hb5.mono HB4.out.size)
        cases hq : eq3 KA KB
        · have hv := HN.out hq
          have HV := Lib.hid hv
          have HBF := Lib.hid (HB2.out.trans (hb25.mono HB2.out.size))
          clear hv hb5 hb25
          go_wp2_with fail
          go_ret
          exact ⟨by rw [HV.out]; rfl, HBF.out⟩
        · obtain ⟨W1, run1, m1, g1, o1, s1⟩ := (HM4.out.below hb5).put boolsTy (by omega) x HW.out (.bool true)
          have hfin : alikeV a b (vs.take (j + 1)) = true ∧ (∃ S, MapF (asked (vs.take (j + 1))) S (j + 1) w2.heap.size W1) ∧ Below w2.heap.size w2 W1 ∧ w2.heap.size + 1 ≤ W1.heap.size :=
            ⟨HY.out hq, ⟨_, m1.ext fun n _ => by rw [HTK.out, asked_snoc]⟩, hb25.trans ((Below.refl _ _).grown g1 hb25.size (fun k e => by cases e; exact Nat.le_refl _)), by have := hb5.size; have := HZ4.out; omega⟩
          have HF := Lib.hid hfin
          clear hfin m1 g1 o1 s1 hb5 hb25
          go_wp2_with fail
          go_roundw
          case rel => exact ⟨j + 1, by go_num, by omega, HF.out.1, HF.out.2.1, HF.out.2.2.1, HF.out.2.2.2⟩
          case measure => simp [intOf]; omega
    · obtain rfl : j = vs.length := by omega
      rw [List.take_length] at hal
      have HAL := Lib.hid hal
      have HBW := Lib.hid hbw
      clear hal hbw hb hmp
      go_wp2_with fail
      go_ret
      exact ⟨by rw [HAL.out]; rfl, HBW.out⟩
end Go.Proofs.YtifdbmdfkhnojaaDoor
/- subst's example. -/
namespace Go.Proofs.YtifdbmdfkhnojaaDoor
open Go.RowKit Go.Shelf Go.Maps Go.WideShapes
/-- The example's binds. -/
def bEx : List Bnd := [(0, 2, 0, (none, 0, 0), .nil)]
/-- The example's parts, and what comes of them. -/
def fEx : Fo := .cons 1 0 (none, 0, 0) .nil (.cons 1 1 (none, 0, 0) .nil .nil)
def gEx : Fo := .cons 2 0 (none, 0, 0) .nil (.cons 1 1 (none, 0, 0) .nil .nil)
theorem subEx : Fo.sub1 (sg bEx) 4 0 fEx = (4, 0, gEx) := by
  rw [Fo.sub1_not (by omega)]
  rfl
theorem bEx_at (w : World) (g : Nat) (h : w.heap[g]? = some (Obj.cells #[.int .i64 0, .int .i64 2, .int .i64 0, .slice none 0 0] 49)) : BdG w bEx (.slice (some ⟨g, 0, none⟩) 1 1) 1000000 := by
  refine ⟨⟨_, 1, rfl, fun _ => ⟨g, 0, rfl, (Array.getElem?_eq_some_iff.1 h).1, by simp [bEx], by unfold maxLen; omega, fun i hi => ?_⟩, fun x hx => ?_⟩, fun x hx => ?_, by simp [bEx], fun x hx => ?_⟩
  · obtain rfl : i = 0 := by simp [bEx] at hi; omega
    exact ⟨cell_of_row w g 0 _ _ (0, 0) h, cell_of_row w g 1 _ _ (0, 0) h, cell_of_row w g 2 _ _ (0, 0) h, cell_of_row w g 3 _ _ (0, 0) h⟩
  · obtain rfl : x = (0, 2, 0, (none, 0, 0), .nil) := by simpa [bEx] using hx
    exact no_parts _ _
  · obtain rfl : x = (0, 2, 0, (none, 0, 0), .nil) := by simpa [bEx] using hx
    exact ⟨by decide, by decide, trivial⟩
  · obtain rfl : x = (0, 2, 0, (none, 0, 0), .nil) := by simpa [bEx] using hx
    simp [Fo.size]
theorem txts_pure (f : Fo) : f.pure.txts = f.txts := (Img.txts (f := f) (g := f.pure) ((img_iff _ _).2 (Fo.pure_pure f)))
theorem ok_pure (f : Fo) : f.pure.ok = f.ok := (Img.ok (f := f) (g := f.pure) ((img_iff _ _).2 (Fo.pure_pure f)))
theorem gEx_txt : (if alone 4 0 gEx.len && gEx.ok then oneT 4 0 gEx.txts else []) = [105, 110, 116, 32, 45, 62, 32, 39, 98] := by decide +kernel
theorem pure_wf (f : Fo) : f.pure.wf ↔ f.wf := by
  induction f with
  | nil => rfl
  | cons k n u ps r i1 i2 => simp only [Fo.pure, Fo.wf, i1, i2]
set_option maxHeartbeats 2000000 in
set_option maxRecDepth 100000 in
theorem awake10 (w : World) (ht : Tab w) : Calls Tryd.prog 10 #[] w fun e w' => e = .returned (.bool true) ∧ Below w.heap.size w w' := by
  obtain ⟨w1, hw1⟩ : ∃ w1, w.alloc (.cells #[.int .i64 0, .int .i64 2, .int .i64 0, .slice none 0 0] 49) = w1 := ⟨_, rfl⟩
  have hb1 : Below w.heap.size w w1 := by rw [← hw1]; exact (Below.refl _ _).alloc (Nat.le_refl _) _
  have h1 : w1.heap[w.heap.size]? = some (Obj.cells #[.int .i64 0, .int .i64 2, .int .i64 0, .slice none 0 0] 49) := by rw [← hw1]; exact heap_alloc_new _ _
  have hl1 : w.heap.size < w1.heap.size := by rw [← hw1]; simp
  have hv0 := var_any 0 w1
  dsimp only [tyVal] at hv0
  have HV0 := Lib.hid hv0
  have HB1 := Lib.hid hb1
  have H1 := Lib.hid h1
  have HT := Lib.hid ht
  clear hv0 hb1 h1 ht
  go_enter Tryd.func10, Tryd.ntmps10
  go_wp2_with fail
  refine HV0.out.mono ?_
  clear HV0
  rintro e w2 ⟨rfl, hb2⟩
  have hv1 := var_any 1 w2
  dsimp only [tyVal] at hv1
  have HV1 := Lib.hid hv1
  have HB2 := Lib.hid hb2
  clear hv1 hb2
  go_wp2_with fail
  refine HV1.out.mono ?_
  clear HV1
  rintro e w3 ⟨rfl, hb3⟩
  have HB13 := Lib.hid (HB2.out.trans (hb3.mono HB2.out.size))
  obtain ⟨w4, hw4⟩ : ∃ w4, w3.alloc (.cells #[.int .i64 1, .int .i64 0, .slice none 0 0, .int .i64 1, .int .i64 1, .slice none 0 0] 25) = w4 := ⟨_, rfl⟩
  have hb4 : Below w3.heap.size w3 w4 := by rw [← hw4]; exact (Below.refl _ _).alloc (Nat.le_refl _) _
  have h4 : w4.heap[w3.heap.size]? = some (Obj.cells #[.int .i64 1, .int .i64 0, .slice none 0 0, .int .i64 1, .int .i64 1, .slice none 0 0] 25) := by rw [← hw4]; exact heap_alloc_new _ _
  have har := arrow_two w4 w3.heap.size 2 1 0 1 1 (none, 0, 0) (none, 0, 0) .nil .nil (Array.getElem?_eq_some_iff.1 h4).1 (Nat.le_refl _) (by unfold maxLen; omega) (cell_of_row _ _ 0 _ _ (0, 0) h4) (cell_of_row _ _ 1 _ _ (0, 0) h4) (cell_of_row _ _ 2 _ _ (0, 0) h4) (cell_of_row _ _ 3 _ _ (0, 0) h4) (cell_of_row _ _ 4 _ _ (0, 0) h4) (cell_of_row _ _ 5 _ _ (0, 0) h4) (no_parts _ _) (no_parts _ _) (by simp [Fo.size])
  have HAR := Lib.hid har
  have HB14 := Lib.hid (HB13.out.trans (hb4.mono HB13.out.size))
  clear har hb4 h4 hb3 HB2
  dsimp only [tyVal, slv] at HAR
  go_wp2_with fail
  refine HAR.out.mono ?_
  clear HAR
  rintro e w5 ⟨⟨u1, u2, u3⟩, rfl, hb5, hF5⟩
  obtain ⟨G, hG, hGt⟩ := hF5.now
  have hGp : G.pure = fEx := (img_iff _ _).1 hG
  have hb15 := HB14.out.trans (hb5.mono HB14.out.size)
  have hap := sapply_any w5 bEx _ (bEx_at w5 w.heap.size ((hb15.block _ hl1).trans H1.out)) 4 0 (u1, u2, u3) G ⟨hGt, by rw [← Fo.pure_size, hGp]; decide, by decide, by rw [← pure_wf, hGp]; exact ⟨by decide, trivial, by decide, trivial, trivial⟩⟩
  rw [← Fo.sub1_pure, hGp, subEx] at hap
  have HAP := Lib.hid hap
  have HB15 := Lib.hid (HB1.out.trans (hb15.mono HB1.out.size))
  clear hap hb15 hb5 hF5 hG hGt hGp HB14 HB13
  dsimp only [tyVal, slv] at HAP
  go_wp2_with fail
  refine HAP.out.mono ?_
  clear HAP
  rintro e w6 ⟨⟨t1, t2, t3⟩, rfl, hb6, hF6⟩
  obtain ⟨G6, hG6, hT6⟩ := hF6.now
  obtain ⟨w7, hw7⟩ : ∃ w7, w6.alloc (.cells #[.int .i64 4, .int .i64 0, .slice t1 t2 t3] 25) = w7 := ⟨_, rfl⟩
  have hb7 : Below w6.heap.size w6 w7 := by rw [← hw7]; exact (Below.refl _ _).alloc (Nat.le_refl _) _
  have h7 : w7.heap[w6.heap.size]? = some (Obj.cells #[.int .i64 4, .int .i64 0, .slice t1 t2 t3] 25) := by rw [← hw7]; exact heap_alloc_new _ _
  have c0 : w7.cell? ⟨w6.heap.size, 0, none⟩ = some (.int .i64 4) := cell_of_row _ _ 0 _ _ (0, 0) h7
  have c1 : w7.cell? ⟨w6.heap.size, 1, none⟩ = some (.int .i64 0) := cell_of_row _ _ 1 _ _ (0, 0) h7
  have c2 : w7.cell? ⟨w6.heap.size, 2, none⟩ = some (.slice t1 t2 t3) := cell_of_row _ _ 2 _ _ (0, 0) h7
  have hb16 := HB15.out.trans (hb6.mono HB15.out.size)
  have hb17 := hb16.trans (hb7.mono hb16.size)
  have hpr := print_any w7 4 0 (t1, t2, t3) G6 (hT6.later hb7) (by rw [← Fo.pure_size, hG6]; decide) (HT.out.below hb17)
  have htx : (if alone 4 0 G6.len && G6.ok then oneT 4 0 G6.txts else []) = [105, 110, 116, 32, 45, 62, 32, 39, 98] := by
    rw [← Fo.pure_len, ← ok_pure, ← txts_pure, hG6]; exact gEx_txt
  rw [htx] at hpr
  have HPR := Lib.hid hpr
  have HB17 := Lib.hid hb17
  clear hpr htx hb17 hb16 hb7 hb6 h7 hF6 hG6 hT6
  dsimp only [tyVal, slv, strB] at HPR
  go_wp2_with fail
  refine HPR.out.mono ?_
  clear HPR
  rintro e w8 ⟨rfl, hb8⟩
  have HB18 := Lib.hid (HB17.out.trans (hb8.mono HB17.out.size))
  clear hb8
  go_wp2_with fail
  go_ret
  exact ⟨rfl, HB18.out⟩
end Go.Proofs.YtifdbmdfkhnojaaDoor
