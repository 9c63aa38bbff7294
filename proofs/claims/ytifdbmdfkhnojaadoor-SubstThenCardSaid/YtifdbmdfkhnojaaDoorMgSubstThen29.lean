/- Texts of one proof, one behind the other. -/
import Derived.Test.YtifdbmdfkhnojaaDoorMgSubstThen28
import Derived.Deep.RegionHeld3
import Derived.Test.YtifdbmdfkhnojaaDoorMgSubstThen13
/- The document's Same of binds; Only, and the document's. -/
namespace Go.Proofs.YtifdbmdfkhnojaaDoor
open Go.RowKit Go.Shelf Go.Maps Go.WideShapes
set_option maxHeartbeats 4000000 in
set_option maxRecDepth 100000 in
theorem rsame_bind (w : World) (a b : List Bnd) (va vb : Value) (ha : BdV w.heap.size w a va) (hb : BdV w.heap.size w b vb) (he : a.map pb = b.map pb) (hs : ∀ x ∈ a, x.2.2.2.2.size ≤ 1000000) (hl : a.length ≤ 1000000) :
    Calls Tryd.prog 20 #[va, vb] w fun e w' => e = .returned (.bool true) ∧ Below w.heap.size w w' := by
  obtain ⟨A, c, rfl⟩ := ha.form
  obtain ⟨B, d, rfl⟩ := hb.form
  have hlen : b.length = a.length := by
    have := congrArg List.length he
    simpa using this.symm
  rw [hlen] at hb ⊢
  have HA := Lib.hid ha
  have HB := Lib.hid hb
  have HE := Lib.hid he
  have HS := Lib.hid hs
  have f0 : (((a.length : Nat) : Int) != (a.length : Nat)) = false := by simp
  have HLN := Lib.hid hlen
  clear ha hb he hs hlen
  go_enter Tryd.func20, Tryd.ntmps20
  go_wp2_with fail
  go_loopw [5] (fun s5 wr => ∃ j : Nat, s5 = .int .i64 j ∧ j ≤ a.length ∧ Below w.heap.size w wr) (fun s _ => a.length - (intOf s).toNat)
  case atStart => exact ⟨0, rfl, Nat.zero_le _, Below.refl _ _⟩
  case round =>
    obtain ⟨j, rfl, hj, hb⟩ := hrel
    by_cases hjl : j < a.length
    · obtain ⟨ba, oa, rfl, hlta, c0, c1, c2, c3⟩ := (HA.out.below hb).at j hjl
      obtain ⟨bb, ob, rfl, hltb, d0, d1, d2, d3⟩ := (HB.out.below hb).at j (by rw [HLN.out]; exact hjl)
      have hpe : pb a[j] = pb (b[j]'(by rw [HLN.out]; exact hjl)) := by
        have := congrArg (fun l => l[j]?) HE.out
        simp only [List.getElem?_map] at this
        rw [List.getElem?_eq_getElem hjl, List.getElem?_eq_getElem (by rw [HLN.out]; exact hjl)] at this
        simpa using this
      have hta : TyV w.heap.size wr a[j].2.2.2.2 (slv a[j].2.2.2.1) := by
        obtain ⟨_, _, _, _, h2⟩ := HA.out
        exact (h2 _ (List.getElem_mem hjl)).below hb
      have htb : TyV w.heap.size wr (b[j]'(by rw [HLN.out]; exact hjl)).2.2.2.2 (slv (b[j]'(by rw [HLN.out]; exact hjl)).2.2.2.1) := by
        obtain ⟨_, _, _, _, h2⟩ := HB.out
        exact (h2 _ (List.getElem_mem _)).below hb
      have hsz := HS.out _ (List.getElem_mem hjl)
      obtain ⟨x, hx⟩ : ∃ x, a[j] = x := ⟨_, rfl⟩
      obtain ⟨y, hy⟩ : ∃ y, (b[j]'(by rw [HLN.out]; exact hjl)) = y := ⟨_, rfl⟩
      rw [hx] at c0 c1 c2 c3 hpe hta hsz
      rw [hy] at d0 d1 d2 d3 hpe htb
      obtain ⟨x0, x1, x2, ⟨xa, xb, xc⟩, x4⟩ := x
      obtain ⟨y0, y1, y2, ⟨ya, yb, yc⟩, y4⟩ := y
      simp only [pb, Prod.mk.injEq] at hpe
      obtain ⟨rfl, rfl, rfl, hpp⟩ := hpe
      dsimp only [slv] at c0 c1 c2 c3 d0 d1 d2 d3 hta htb hsz
      have hsm := rsame_any (x4.size + 1) x4 y4 x1 x2 x1 x2 (.slice xa xb xc) (.slice ya yb yc) wr.drew (by omega) hsz (by rw [← Fo.pure_size, ← hpp, Fo.pure_size]; exact hsz) ((hta.keep hb.size fun _ _ _ => rfl).below (Below.refl _ _).drew) ((htb.keep hb.size fun _ _ _ => rfl).below (Below.refl _ _).drew)
      have hev : (x1 == x1 && x2 == x2 && x4.same y4) = true := by
        rw [(Fo.same_iff x4 y4).2 hpp]; simp
      rw [hev] at hsm
      have kc : ∀ W, Below w.heap.size w W → W.cell? ⟨ba, oa + j * 4, none⟩ = some (.int .i64 x0) ∧ W.cell? ⟨ba, oa + j * 4 + 1, none⟩ = some (.int .i64 x1) ∧ W.cell? ⟨ba, oa + j * 4 + 2, none⟩ = some (.int .i64 x2) ∧ W.cell? ⟨ba, oa + j * 4 + 3, none⟩ = some (.slice xa xb xc) ∧
          W.cell? ⟨bb, ob + j * 4, none⟩ = some (.int .i64 x0) ∧ W.cell? ⟨bb, ob + j * 4 + 1, none⟩ = some (.int .i64 x1) ∧ W.cell? ⟨bb, ob + j * 4 + 2, none⟩ = some (.int .i64 x2) ∧ W.cell? ⟨bb, ob + j * 4 + 3, none⟩ = some (.slice ya yb yc) := fun W h => by
        obtain ⟨_, _, h1, _, q0, q1, q2, q3⟩ := (HA.out.below h).at j hjl
        obtain ⟨_, _, h2, _, r0, r1, r2, r3⟩ := (HB.out.below h).at j (by rw [HLN.out]; exact hjl)
        injection h1 with h1
        injection h1 with e1 e2
        subst e1; subst e2
        injection h2 with h2
        injection h2 with e1 e2
        subst e1; subst e2
        rw [hx] at q0 q1 q2 q3
        rw [hy] at r0 r1 r2 r3
        exact ⟨q0, q1, q2, q3, r0, r1, r2, r3⟩
      have kd := kc wr.drew hb.drew
      have f1 : (x0 != x0) = false := by simp
      have HSM := Lib.hid hsm
      have KC := Lib.hid kc
      have HBB := Lib.hid hb
      have HX := Lib.hid (And.intro hx hy)
      clear hsm kc hb hx hy hta htb hpp hev c0 c1 c2 c3 d0 d1 d2 d3
      dsimp only [tyVal] at HSM
      go_wp2_with fail
      go_region_held3 (fun W => W.cell? ⟨ba, oa + j * 4, none⟩ = some (.int .i64 x0) ∧ W.cell? ⟨ba, oa + j * 4 + 1, none⟩ = some (.int .i64 x1) ∧ W.cell? ⟨ba, oa + j * 4 + 2, none⟩ = some (.int .i64 x2) ∧ W.cell? ⟨ba, oa + j * 4 + 3, none⟩ = some (.slice xa xb xc) ∧ W.cell? ⟨bb, ob + j * 4, none⟩ = some (.int .i64 x0) ∧ W.cell? ⟨bb, ob + j * 4 + 1, none⟩ = some (.int .i64 x1) ∧ W.cell? ⟨bb, ob + j * 4 + 2, none⟩ = some (.int .i64 x2) ∧ W.cell? ⟨bb, ob + j * 4 + 3, none⟩ = some (.slice ya yb yc))
        (first | exact kd | exact kx1)
        (first | (go_at_call 12; with_reducible refine HSM.out.mono ?_; rintro e z1 ⟨rfl, hz1⟩; have hz2 := HBB.out.drew.trans (hz1.mono HBB.out.drew.size); have kx1 := KC.out _ hz2))
      clear kd kx1
      go_wp2_with fail
      go_roundw
      case rel => exact ⟨j + 1, by go_num, by omega, hz2⟩
      case measure => simp [intOf]; omega
    · obtain rfl : j = a.length := by omega
      go_wp2_with fail
      go_ret
      exact ⟨rfl, hb⟩
/-- The binds of some variables. -/
def onlyP (l : List Bnd) (vs : List Int) : List Pb := ((cnt l).filter fun x => decide (x.1 ∈ vs)).map pb
theorem onlyP_filter_len (l : List Bnd) (p : Bnd → Bool) : ((cnt l).filter p).length ≤ l.length := Nat.le_trans (List.length_filter_le _ _) (cnt_len l)
end Go.Proofs.YtifdbmdfkhnojaaDoor
/- Only, and the document's. -/
namespace Go.Proofs.YtifdbmdfkhnojaaDoor
open Go.RowKit Go.Shelf Go.Maps Go.WideShapes
attribute [local go_sem ↓] builtin_app
set_option maxHeartbeats 4000000 in
set_option maxRecDepth 100000 in
theorem ronly_bind (w : World) (b : List Bnd) (vb vv : Value) (vs : List Int) (hb : BdG w b vb 1000000) (hR : Rd w 1 vv vs.length (ints vs)) (hvl : vs.length ≤ 100000) :
    Calls Tryd.prog 24 #[vb, vv] w fun e w' => ∃ (v' : Value) (L : List Bnd), e = .returned v' ∧ BdV w'.heap.size w' L v' ∧ L.map pb = onlyP b vs ∧ Below w.heap.size w w' := by
  obtain ⟨B, d, rfl⟩ := hb.at_.form
  obtain ⟨AV, cv, rfl⟩ := hR.form
  have hlb := hb.len
  have HB := Lib.hid hb
  have HR := Lib.hid hR
  clear hb hR
  go_enter Tryd.func24, Tryd.ntmps24
  go_wp2_with fail
  go_loopw [5, 6] (fun s5 s6 wr => ∃ j : Nat, s6 = .int .i64 j ∧ j ≤ b.length ∧ ThInv w.heap.size w.heap.size (((cnt (b.take j)).filter fun x => decide (x.1 ∈ vs)).map pb) s5 wr ∧ Below w.heap.size w wr) (fun _ s _ => b.length - (intOf s).toNat)
  case atStart => exact ⟨0, rfl, Nat.zero_le _, ThInv.nil _ _ _, Below.refl _ _⟩
  case round =>
    obtain ⟨j, rfl, hj, hth, hb⟩ := hrel
    by_cases hjl : j < b.length
    · obtain ⟨bb, off, rfl, hlt, hcl⟩ := HB.out.cells j hjl
      have hcn := rcounts_any wr b _ (HB.out.later hb).at_ (by omega) j hjl
      have hst := cnt_step hjl
      have hcl1 := cnt_len (b.take j)
      rw [List.length_take] at hcl1
      have hty := HB.out.tys _ (List.getElem_mem hjl)
      obtain ⟨z, hz⟩ : ∃ z, (idx b b[j].1 == (j : Int)) = z := ⟨_, rfl⟩
      rw [hz] at hcn hst
      obtain ⟨x, hx⟩ : ∃ x, b[j] = x := ⟨_, rfl⟩
      rw [hx] at hcl hst hty
      obtain ⟨x0, x1, x2, ⟨A4, n4, c4⟩, x4⟩ := x
      dsimp only [slv] at hcl hty
      have HCN := Lib.hid hcn
      have HST := Lib.hid hst
      have HCL := Lib.hid hcl
      have HTY := Lib.hid hty
      have HTH2 := Lib.hid hth
      have HBB := Lib.hid hb
      have HX := Lib.hid hx
      have HZ := Lib.hid hz
      clear hcn hst hcl hty hth hb hx hz
      go_wp2_with fail
      refine HCN.out.mono ?_
      clear HCN
      rintro e w1 ⟨rfl, hb1⟩
      have hbw1 := HBB.out.trans (hb1.mono HBB.out.size)
      cases z with
      | false =>
        have hst := HST.out
        simp only [Bool.false_eq_true, if_false] at hst
        have hfin := HTH2.out.below hb1
        have HF := Lib.hid (And.intro hfin hbw1)
        have HS2 := Lib.hid hst
        clear hst hfin hb1 hbw1
        go_wp2_with fail
        go_roundw
        case rel => exact ⟨j + 1, by go_num, by omega, by rw [HS2.out]; exact HF.out.1, HF.out.2⟩
        case measure => simp [intOf]; omega
      | true =>
        have hst := HST.out
        simp only [if_true] at hst
        obtain ⟨d0, d1, d2, d3⟩ := HCL.out _ hbw1
        have hfd := rin_any vs (.slice AV vs.length cv) x0 w1 (HR.out.below hbw1) (by omega)
        have HFD := Lib.hid hfd
        have HS2 := Lib.hid hst
        have HB1 := Lib.hid hb1
        have HBW1 := Lib.hid hbw1
        clear hfd hst hb1 hbw1
        go_wp2_with fail
        refine HFD.out.mono ?_
        clear HFD
        rintro e w2 ⟨rfl, hb2⟩
        have hbw2 := HBW1.out.trans (hb2.mono HBW1.out.size)
        obtain ⟨e0, e1, e2, e3⟩ := HCL.out _ hbw2
        have hb12 := HB1.out.trans (hb2.mono HB1.out.size)
        by_cases hin : x0 ∈ vs
        · have hfl : ((cnt (b.take (j + 1))).filter fun x => decide (x.1 ∈ vs)).map pb = ((cnt (b.take j)).filter fun x => decide (x.1 ∈ vs)).map pb ++ [(x0, x1, x2, x4.pure)] := by
            rw [HS2.out, List.filter_append, List.map_append]
            congr 1
            simp [hin, pb]
          have hPl2 : (((cnt (b.take j)).filter fun x => decide (x.1 ∈ vs)).map pb).length ≤ 1000000 := by
            have := List.length_filter_le (fun x : Bnd => decide (x.1 ∈ vs)) (cnt (b.take j))
            simp only [List.length_map] at this ⊢
            omega
          have hsd : Std (fun g => g < w.heap.size ∨ w2.heap.size ≤ g) w2 x4.pure (A4, n4, c4) := (Std.of_tyV (HTY.out.below hbw2) hbw2.size).to (Nat.le_refl _) fun g _ h => ⟨.inl h, rfl⟩
          obtain ⟨v', W2, hrun, h1, h2, h3, _⟩ := ThInv.app (x0 := x0) (K := (x1, x2, x4.pure)) (r1 := A4) (r2 := n4) (r3 := c4) HTH2.out (Nat.le_refl _) HBB.out.size hPl2 hb12 (Below.refl _ _) hsd
          have hfin : ThInv w.heap.size w.heap.size (((cnt (b.take (j + 1))).filter fun x => decide (x.1 ∈ vs)).map pb) v' W2 ∧ Below w.heap.size w W2 := by
            rw [hfl]
            exact ⟨h1, hbw2.trans h2⟩
          have HF := Lib.hid hfin
          rw [decide_eq_true hin]
          clear hfin hfl hPl2 hsd h1 h2 h3 hin hb12 hbw2 hb2
          go_wp2_with fail
          go_roundw
          case rel => exact ⟨j + 1, by go_num, by omega, HF.out.1, HF.out.2⟩
          case measure => simp [intOf]; omega
        · have hfl : ((cnt (b.take (j + 1))).filter fun x => decide (x.1 ∈ vs)).map pb = ((cnt (b.take j)).filter fun x => decide (x.1 ∈ vs)).map pb := by
            rw [HS2.out, List.filter_append, List.map_append]
            simp [hin]
          have HF := Lib.hid (And.intro (HTH2.out.below hb12) (And.intro hbw2 hfl))
          rw [decide_eq_false hin]
          clear hfl hin hb12 hbw2 hb2
          go_wp2_with fail
          go_roundw
          case rel => exact ⟨j + 1, by go_num, by omega, by rw [HF.out.2.2]; exact HF.out.1, HF.out.2.1⟩
          case measure => simp [intOf]; omega
    · obtain rfl : j = b.length := by omega
      rw [List.take_length] at hth
      obtain ⟨L, hL1, hL2⟩ := hth.done
      have hfin : L.map pb = onlyP b vs := by rw [hL2]; simp [onlyP]
      have HF := Lib.hid (And.intro hL1 (And.intro hfin hb))
      clear hL1 hL2 hfin hb hth
      go_wp2_with fail
      go_ret
      exact ⟨_, L, rfl, HF.out.1, HF.out.2.1, HF.out.2.2⟩
end Go.Proofs.YtifdbmdfkhnojaaDoor
/- Only. -/
namespace Go.Proofs.YtifdbmdfkhnojaaDoor
open Go.RowKit Go.Shelf Go.Maps Go.WideShapes
set_option maxHeartbeats 4000000 in
set_option maxRecDepth 100000 in
theorem only_bind (w : World) (b : List Bnd) (vb vv : Value) (vs : List Int) (hb : BdG w b vb 1000000) (hR : Rd w 1 vv vs.length (ints vs)) (hvl : vs.length ≤ 100000) (hvw : ∀ v ∈ vs, (Lit.int .i64 v).wf = true) :
    Calls Tryd.prog 23 #[vb, vv] w fun e w' => ∃ (v' : Value) (L : List Bnd), e = .returned v' ∧ BdV w'.heap.size w' L v' ∧ L.map pb = onlyP b vs ∧ Below w.heap.size w w' := by
  obtain ⟨B, d, rfl⟩ := hb.at_.form
  obtain ⟨AV, cv, rfl⟩ := hR.form
  have hlb := hb.len
  have HB := Lib.hid hb
  have HR := Lib.hid hR
  have HVW := Lib.hid hvw
  have K1 := Lib.hid (MapF.made w)
  have hb0 : Below w.heap.size w (w.alloc (Obj.map #[] 0)) := (Below.refl _ _).alloc (Nat.le_refl _) _
  have hmm := @run_makeMap Tryd.prog
  clear hb hR hvw
  go_enter Tryd.func23, Tryd.ntmps23
  go_wp2_with fail
  go_loopw [14] (fun s14 wr => ∃ j : Nat, s14 = .int .i64 j ∧ j ≤ vs.length ∧ (∃ S, MapF (asked (vs.take j)) S j w.heap.size wr) ∧ Below w.heap.size w wr ∧ w.heap.size + 1 ≤ wr.heap.size) (fun s _ => vs.length - (intOf s).toNat)
  case atStart => exact ⟨0, rfl, Nat.zero_le _, ⟨0, K1.out.ext fun n _ => by simp [asked]⟩, hb0, by simp⟩
  case round =>
    obtain ⟨j, rfl, hj, ⟨S, hmp⟩, hb, hsz⟩ := hrel
    by_cases hjl : j < vs.length
    · obtain ⟨_, hrd⟩ := HR.out
      rcases hrd with ⟨h0, _⟩ | ⟨gb, goff, gcap, he, _, _, hgb, hgat⟩
      · omega
      injection he with e1 _ e3
      subst e1; subst e3
      have g0 : wr.cell? ⟨gb, goff + j, none⟩ = some (.int .i64 vs[j]) := (hb.cell (p := ⟨gb, goff + j, none⟩) hgb).trans (hgat j _ (by simp [ints, hjl]))
      have htk : vs.take (j + 1) = vs.take j ++ [vs[j]] := by rw [List.take_succ_eq_append_getElem hjl]
      have hw := HVW.out vs[j] (List.getElem_mem hjl)
      obtain ⟨x, hx⟩ : ∃ x, vs[j] = x := ⟨_, rfl⟩
      rw [hx] at g0 htk hw
      obtain ⟨W1, run1, m1, g1, o1, s1⟩ := hmp.put boolsTy (by omega) x hw (.bool true)
      have hfin : (∃ S, MapF (asked (vs.take (j + 1))) S (j + 1) w.heap.size W1) ∧ Below w.heap.size w W1 ∧ w.heap.size + 1 ≤ W1.heap.size :=
        ⟨⟨_, m1.ext fun n _ => by rw [htk, asked_snoc]⟩, hb.trans ((Below.refl _ _).grown g1 hb.size (fun k e => by cases e; exact Nat.le_refl _)), by omega⟩
      have HF := Lib.hid hfin
      clear hfin m1 g1 o1 s1 hmp hb htk hw hgat hx
      go_wp2_with fail
      go_roundw
      case rel => exact ⟨j + 1, by go_num, by omega, HF.out.1, HF.out.2.1, HF.out.2.2⟩
      case measure => simp [intOf]; omega
    · obtain rfl : j = vs.length := by omega
      rw [List.take_length] at hmp
      have hca := counting_any wr b _ (HB.out.later hb).at_ HB.out.wf (by omega)
      have HCA := Lib.hid hca
      have HM := Lib.hid hmp
      have HBR := Lib.hid hb
      clear hca hmp hb hb0 K1
      generalize wr = wA at *
      go_wp2_with fail
      refine HCA.out.mono ?_
      clear HCA
      rintro e w3 ⟨v3, rfl, hC, hb3, _⟩
      obtain ⟨A3, c3, rfl⟩ := hC.form
      have hcla := cnt_len b
      have HM3 := Lib.hid (HM.out.below hb3)
      have HB3 := Lib.hid (HBR.out.trans (hb3.mono HBR.out.size))
      clear HM hb3 HBR
      obtain ⟨CA, hCA⟩ : ∃ CA, cnt b = CA := ⟨_, rfl⟩
      have HCA := Lib.hid hCA
      rw [hCA] at hC hcla ⊢
      clear hCA
      go_wp2_with fail
      go_loopw [8, 24] (fun s8 s24 wr => ∃ j : Nat, s24 = .int .i64 j ∧ j ≤ CA.length ∧ ThInv 0 w3.heap.size (((CA.take j).filter fun x => decide (x.1 ∈ vs)).map pb) s8 wr ∧ Below w3.heap.size w3 wr) (fun _ s _ => CA.length - (intOf s).toNat)
      case atStart => exact ⟨0, rfl, Nat.zero_le _, ThInv.nil _ _ _, Below.refl _ _⟩
      case round =>
        obtain ⟨j, rfl, hj, hth, hb⟩ := hrel
        by_cases hjl : j < CA.length
        · obtain ⟨bb, off, rfl, hlt, c0, c1, c2, c3'⟩ := (hC.below hb).at j hjl
          have htk : CA.take (j + 1) = CA.take j ++ [CA[j]] := by rw [List.take_succ_eq_append_getElem hjl]
          have hmem : CA[j] ∈ b := cnt_sub (by rw [HCA.out]; exact List.getElem_mem hjl)
          have hbw := HB3.out.trans (hb.mono HB3.out.size)
          have hty := (HB.out.later hbw).types (Nat.le_refl _) _ hmem
          have hwf := HB.out.wf _ hmem
          obtain ⟨x, hx⟩ : ∃ x, CA[j] = x := ⟨_, rfl⟩
          rw [hx] at c0 c1 c2 c3' htk hty hwf
          obtain ⟨x0, x1, x2, ⟨A4, n4, c4⟩, x4⟩ := x
          dsimp only [slv] at c0 c1 c2 c3' hty hwf
          obtain ⟨w4, hw4⟩ : ∃ w4, wr.alloc (.cells #[.int .i64 x0, .int .i64 x1, .int .i64 x2, .slice A4 n4 c4] 49) = w4 := ⟨_, rfl⟩
          have hb4 : Below wr.heap.size wr w4 := by rw [← hw4]; exact (Below.refl _ _).alloc (Nat.le_refl _) _
          have hsz4 : w4.heap.size = wr.heap.size + 1 := by rw [← hw4]; simp
          have hB4 : w4.heap[wr.heap.size]? = some (.cells #[.int .i64 x0, .int .i64 x1, .int .i64 x2, .slice A4 n4 c4] 49) := by rw [← hw4]; exact heap_alloc_new _ _
          have d0 : w4.cell? ⟨wr.heap.size, 0, none⟩ = some (.int .i64 x0) := cell_of_row w4 _ 0 _ _ (0, 0) hB4
          have d1 : w4.cell? ⟨wr.heap.size, 1, none⟩ = some (.int .i64 x1) := cell_of_row w4 _ 1 _ _ (0, 0) hB4
          have d2 : w4.cell? ⟨wr.heap.size, 2, none⟩ = some (.int .i64 x2) := cell_of_row w4 _ 2 _ _ (0, 0) hB4
          have d3 : w4.cell? ⟨wr.heap.size, 3, none⟩ = some (.slice A4 n4 c4) := cell_of_row w4 _ 3 _ _ (0, 0) hB4
          have h34 : Below w3.heap.size w3 w4 := hb.trans (hb4.mono hb.size)
          have hlk := (HM3.out.below h34).look boolsTy x0 hwf.1
          rw [asked_getD] at hlk
          by_cases hin : x0 ∈ vs
          · rw [decide_eq_true hin] at hlk
            have hfl : ((CA.take (j + 1)).filter fun x => decide (x.1 ∈ vs)).map pb = ((CA.take j).filter fun x => decide (x.1 ∈ vs)).map pb ++ [(x0, x1, x2, x4.pure)] := by
              rw [htk, List.filter_append, List.map_append]
              congr 1
              simp [hin, pb]
            have hPl2 : (((CA.take j).filter fun x => decide (x.1 ∈ vs)).map pb).length ≤ 1000000 := by
              have := List.length_filter_le (fun x : Bnd => decide (x.1 ∈ vs)) (CA.take j)
              simp only [List.length_map, List.length_take] at this ⊢
              omega
            have hcp := copy_any w4.drew x1 x2 (A4, n4, c4) x4 (hty.1.later (hb4.trans (Below.refl _ _).drew)) hty.2
            have happ : ∀ (w7 : World) (r1 : Option Addr) (r2 r3 : Nat), Below w4.drew.heap.size w4.drew w7 → FreshT 25 w4.drew.heap.size w7 idn x4 (r1, r2, r3) →
                ∃ v' W2, (app_ #[22, 22] 22 #[u8, .slice (some ⟨w7.heap.size, 0, none⟩) 1 1]).run Tryd.prog (w7.alloc (.cells #[.int .i64 x0, .int .i64 x1, .int .i64 x2, .slice r1 r2 r3] 49)) = .ok v' W2 ∧ w7.cell? ⟨wr.heap.size, 0, none⟩ = some (.int .i64 x0) ∧
                  Hid (ThInv 0 w3.heap.size (((CA.take (j + 1)).filter fun x => decide (x.1 ∈ vs)).map pb) v' W2 ∧ Below w3.heap.size w3 W2) := by
              intro w7 r1 r2 r3 hb7 hF
              obtain ⟨v', W2, hrun, h1, h2, h3, _⟩ := ThInv.app (x0 := x0) (K := (x1, x2, x4.pure)) (r1 := r1) (r2 := r2) (r3 := r3) hth (Nat.zero_le _) hb.size hPl2 (hb4.trans (Below.refl _ _).drew) hb7 (hF.p.std.to (Nat.le_refl _) fun b _ h => ⟨.inr h, rfl⟩)
              refine ⟨v', W2, hrun, (hb7.cell (p := ⟨wr.heap.size, 0, none⟩) (by simp; omega)).trans d0, Lib.hid ⟨?_, (h34.trans ((Below.refl _ w4).drew.trans (hb7.mono (by have := h34.size; simp; omega)))).trans h2⟩⟩
              rw [hfl]; exact h1
            have HCP := Lib.hid hcp
            have HAPP := Lib.hid happ
            have HX := Lib.hid hx
            clear hcp happ hx hty hwf hB4 hsz4 hb4 hbw h34 hth htk hmem hfl hb hin hPl2
            dsimp only [tyVal, slv] at HCP
            go_wp2_with fail
            go_region_law (first | (refine step_app (by rfl) (.tmp 32) (.tmp 39) 22 (by rfl) hrun (by rfl) (by rfl) ?_) | (go_simp; go_at_call 47; refine HCP.out.mono ?_; rintro e w7 ⟨⟨r1, r2, r3⟩, rfl, hb7, hF⟩; obtain ⟨v', W2, hrun, z0, hfin⟩ := HAPP.out w7 r1 r2 r3 hb7 hF; clear hb7 hF))
            all_goals
              go_wp2_with fail
              go_roundw
              case rel => exact ⟨j + 1, by go_num, by omega, hfin.out.1, hfin.out.2⟩
              case measure => simp [intOf]; omega
          · rw [decide_eq_false hin] at hlk
            have hfl : ((CA.take (j + 1)).filter fun x => decide (x.1 ∈ vs)).map pb = ((CA.take j).filter fun x => decide (x.1 ∈ vs)).map pb := by
              rw [htk, List.filter_append, List.map_append]
              simp [hin]
            have HF := Lib.hid (And.intro (hth.below hb4) (And.intro h34 hfl))
            have HX := Lib.hid hx
            clear hx hty hwf hB4 hsz4 hb4 hbw h34 hth htk hmem hfl hb hin
            go_wp2_with fail
            go_roundw
            case rel => exact ⟨j + 1, by go_num, by omega, by rw [HF.out.2.2]; exact HF.out.1, HF.out.2.1⟩
            case measure => simp [intOf]; omega
        · obtain rfl : j = CA.length := by omega
          rw [List.take_length] at hth
          obtain ⟨L, hL1, hL2⟩ := hth.done
          have hfin : L.map pb = onlyP b vs := by rw [hL2]; unfold onlyP; rw [HCA.out]; simp
          have HF := Lib.hid (And.intro hL1 (And.intro hfin (HB3.out.trans (hb.mono HB3.out.size))))
          clear hL1 hL2 hfin hb hth
          go_wp2_with fail
          go_ret
          exact ⟨_, L, rfl, HF.out.1, HF.out.2.1, HF.out.2.2⟩
end Go.Proofs.YtifdbmdfkhnojaaDoor
