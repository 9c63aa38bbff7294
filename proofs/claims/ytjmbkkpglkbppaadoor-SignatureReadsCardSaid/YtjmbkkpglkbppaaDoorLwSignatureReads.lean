/- SignatureReads: for every input the law returns true, and the arguments read behind the call as they did before. -/
import Derived.Test.YtjmbkkpglkbppaaDoorSgR
import Derived.Deep.CutBlock
import Derived.ProofKit
import Derived.OpenShut
import Derived.Test.YtjmbkkpglkbppaaDoorTyW
import Derived.Test.YtjmbkkpglkbppaaDoorTkU
namespace Go.Proofs.YtjmbkkpglkbppaaDoor
open Go.RowKit Go.Shelf Go.ChangeShapes Go.WideShapes Go.ChangeAt

set_option maxRecDepth 100000 in
theorem Arg2_open {H : Type} {enc : TypeId × Value → H} {W : World} {r : Reach} {b0 : Nat} {v : Value} {d : DataW H} {p : List MemPlace} (hval : Value.okWide Tryd.prog W r b0 23 v)
    (h : DataW.Trod enc Tryd.prog W 0 (fun _ => true) true 23 v d p) : ∃ x y : Int, v = .agg #[.int .i64 x, .int .i64 y] ∧ (-9223372036854775808 ≤ x ∧ x ≤ 9223372036854775807) ∧ (-9223372036854775808 ≤ y ∧ y ≤ 9223372036854775807) := by
  have hu := Tryd.underlying23
  obtain ⟨cs, rfl, hcs⟩ : ∃ cs, v = .agg cs ∧ cs.size = Tryd.prog.cellsOf 23 := by
    simp only [Value.okWide, hu] at hval
    obtain ⟨cs, h1, h2, _⟩ := hval
    exact ⟨cs, h1, h2⟩
  have hC : Tryd.prog.cellsOf 23 = 2 := by kernel_rfl
  have hI : Tryd.prog.cellsOf 3 = 1 := by kernel_rfl
  rw [hC] at hcs
  obtain ⟨fuel, hf⟩ := h
  obtain ⟨ys, n', _, _, hlen, hyl, hfld⟩ := DataW.trod_array hu hf
  have q0 := hfld 0 (by omega)
  have q1 := hfld 1 (by omega)
  rw [hI, List.getElem?_eq_getElem (by omega)] at q0 q1
  obtain ⟨k0, hk0, _, w0⟩ := DataW.trod_int Tryd.underlying3 q0
  obtain ⟨k1, hk1, _, w1⟩ := DataW.trod_int Tryd.underlying3 q1
  have e1 : IntKind.i64.min = -9223372036854775808 := by decide
  have e2 : IntKind.i64.max = 9223372036854775807 := by decide
  simp only [Lit.wf, Bool.and_eq_true, decide_eq_true_eq] at w0 w1
  match cs, hcs with
  | ⟨[c0, c1]⟩, _ =>
    simp [Value.cells] at hk0 hk1
    subst hk0; subst hk1
    exact ⟨k0, k1, rfl, by omega, by omega⟩
set_option maxRecDepth 100000 in
set_option maxHeartbeats 8000000 in
theorem reads_any (w : World) (v : Value) (ts : List TV) (hrd : RdT w v ts) (at_ : Int) (hat : -9223372036854775808 ≤ at_ ∧ at_ ≤ 9223372036854775807) (n0 n1 : Int) (hn0 : -9223372036854775808 ≤ n0 ∧ n0 ≤ 9223372036854775807) (hn1 : -9223372036854775808 ≤ n1 ∧ n1 ≤ 9223372036854775807) (ht : Tab w) :
    Calls Tryd.prog 3 #[v, .int .i64 at_, .agg #[.int .i64 n0, .int .i64 n1]] w fun e w' => e = .returned (.bool true) ∧ Below w.heap.size w w' := by
  obtain ⟨A, n, c, hvv⟩ : ∃ A n c, v = .slice A n c := by
    rcases hrd.2 with ⟨_, A, c, h⟩ | ⟨b, off, cap, h, _⟩
    · exact ⟨A, 0, c, h⟩
    · exact ⟨_, _, _, h⟩
  obtain ⟨w0, hw0⟩ : ∃ w0, w.alloc (.cells #[.int .i64 n0, .int .i64 n1] 23) = w0 := ⟨_, rfl⟩
  have hb0 : Below w.heap.size w w0 := by rw [← hw0]; exact (Below.refl _ _).alloc (Nat.le_refl _) _
  have hx0 : w0.heap[w.heap.size]? = some (Obj.cells #[.int .i64 n0, .int .i64 n1] 23) := by rw [← hw0]; exact heap_alloc_new w _
  have hl0 : w.heap.size < w0.heap.size := (Array.getElem?_eq_some_iff.1 hx0).1
  have HGR := Lib.hid (great4_any w0 v ts (hrd.below hb0))
  have HT := Lib.hid (ht.below hb0)
  have HRD := Lib.hid (hrd.below hb0)
  have HB0 := Lib.hid (And.intro hb0 hx0)
  clear ht hrd
  subst hvv
  go_enter Tryd.func3, Tryd.ntmps3
  go_upto_region 1 with fail
  clear hw0 hb0 hx0
  go_wp2_with fail
  refine HGR.out.mono ?_
  rintro e w' ⟨⟨gb, rfl, hgb⟩, hww⟩
  subst hww
  cases gb with
  | true =>
    clear hgb
    go_wp2_with fail
    refine (awake4_any _ HT.out).mono ?_
    rintro e w2 ⟨rfl, hb2⟩
    have HB2 := Lib.hid (HB0.out.1.trans (hb2.mono HB0.out.1.size))
    clear hb2
    go_wp2_with fail
    go_ret
    exact ⟨rfl, HB2.out⟩
  | false =>
    have hlen := hgb rfl
    have c0 : w0.cell? ⟨w.heap.size, 0, none⟩ = some (.int .i64 n0) := cell_of_row w0 _ 0 _ _ _ HB0.out.2
    have c1 : w0.cell? ⟨w.heap.size, 1, none⟩ = some (.int .i64 n1) := cell_of_row w0 _ 1 _ _ _ HB0.out.2
    clear hgb
    by_cases h1 : 1000 < n0
    · have f1 : decide ((1000 : Int) < n0) = true := decide_eq_true h1
      go_wp2_with fail
      refine (awake4_any _ HT.out).mono ?_
      rintro e w2 ⟨rfl, hb2⟩
      have HB2 := Lib.hid (HB0.out.1.trans (hb2.mono HB0.out.1.size))
      clear hb2
      go_wp2_with fail
      go_ret
      exact ⟨rfl, HB2.out⟩
    have f1 : decide ((1000 : Int) < n0) = false := decide_eq_false h1
    by_cases h2 : n0 < -1000
    · have f2 : decide (n0 < (-1000 : Int)) = true := decide_eq_true h2
      go_wp2_with fail
      refine (awake4_any _ HT.out).mono ?_
      rintro e w2 ⟨rfl, hb2⟩
      have HB2 := Lib.hid (HB0.out.1.trans (hb2.mono HB0.out.1.size))
      clear hb2
      go_wp2_with fail
      go_ret
      exact ⟨rfl, HB2.out⟩
    have f2 : decide (n0 < (-1000 : Int)) = false := decide_eq_false h2
    have HR1 := Lib.hid (sread_any w0 _ ts at_ n0 n1 HRD.out (by omega) (by omega))
    go_wp2_with fail
    refine HR1.out.mono ?_
    rintro e w1 ⟨o1, ⟨u1, u2, u3⟩, f1, hR1, rfl, hf1, hfr1, hb1⟩
    have hal1 : Below w1.heap.size w1 (w1.alloc (.cells #[.int .i64 o1.ty.1, .int .i64 o1.ty.2.1, .slice u1 u2 u3] 28)) := (Below.refl _ _).alloc (Nat.le_refl _) _
    have hbw1 : Below w0.heap.size w0 (w1.alloc (.cells #[.int .i64 o1.ty.1, .int .i64 o1.ty.2.1, .slice u1 u2 u3] 28)) := hb1.trans (hal1.mono hb1.size)
    have HR2 := Lib.hid (rread_any _ (w1.alloc (.cells #[.int .i64 o1.ty.1, .int .i64 o1.ty.2.1, .slice u1 u2 u3] 28)) _ ts at_ n0 n1 (Nat.lt_succ_self _) (HRD.out.below hbw1) (by omega) (by omega) (by omega))
    have hbx1 : (w1.alloc (.cells #[.int .i64 o1.ty.1, .int .i64 o1.ty.2.1, .slice u1 u2 u3] 28)).heap[w1.heap.size]? = some (Obj.cells (tyC3 (o1.ty.1, o1.ty.2.1, (u1, u2, u3), f1)) 28) := heap_alloc_new w1 _
    have hfr1' := hfr1.below hal1
    have d0 : (w1.alloc (.cells #[.int .i64 o1.ty.1, .int .i64 o1.ty.2.1, .slice u1 u2 u3] 28)).cell? ⟨w.heap.size, 0, none⟩ = some (.int .i64 n0) := (hbw1.cell (p := ⟨w.heap.size, 0, none⟩) hl0).trans c0
    have d1 : (w1.alloc (.cells #[.int .i64 o1.ty.1, .int .i64 o1.ty.2.1, .slice u1 u2 u3] 28)).cell? ⟨w.heap.size, 1, none⟩ = some (.int .i64 n1) := (hbw1.cell (p := ⟨w.heap.size, 1, none⟩) hl0).trans c1
    have e0 : w1.cell? ⟨w.heap.size, 0, none⟩ = some (.int .i64 n0) := (hb1.cell (p := ⟨w.heap.size, 0, none⟩) hl0).trans c0
    have e1 : w1.cell? ⟨w.heap.size, 1, none⟩ = some (.int .i64 n1) := (hb1.cell (p := ⟨w.heap.size, 1, none⟩) hl0).trans c1
    have hl1 : w.heap.size < w1.heap.size := by have := hb1.size; omega
    have HH1 := Lib.hid (And.intro hR1 (And.intro hf1 (And.intro hfr1' (And.intro hbw1 hbx1))))
    clear hR1 hf1 hfr1 hfr1' hb1 hal1 hbw1 hbx1
    dsimp only [tyVal, slv]
    go_wp2_with fail
    refine HR2.out.mono ?_
    rintro e w2 ⟨o2, ⟨v1, v2, v3⟩, f2, hR2, rfl, hf2, hfr2, hb2, _⟩
    obtain ⟨hR1, hf1, hfr1, hbw1, hbx1⟩ := HH1.out
    obtain rfl : o1 = o2 := hR1.one hR2.is
    have hsm1 := hR1.small (by omega) (tk_in ts)
    dsimp only [tyVal, slv]
    have hbw2 : Below w0.heap.size w0 w2 := hbw1.trans (hb2.mono (by have := hbw1.size; omega))
    have hlw1 : w1.heap.size < (w1.alloc (.cells #[.int .i64 o1.ty.1, .int .i64 o1.ty.2.1, .slice u1 u2 u3] 28)).heap.size := by simp
    have hal2 : Below w2.heap.size w2 (w2.alloc (.cells #[.int .i64 o1.ty.1, .int .i64 o1.ty.2.1, .slice v1 v2 v3] 28)) := (Below.refl _ _).alloc (Nat.le_refl _) _
    have hbx2 := (hb2.block _ hlw1).trans hbx1
    have hlw2 : w1.heap.size < w2.heap.size := Nat.lt_of_lt_of_le hlw1 hb2.size
    obtain ⟨y0, y1, y2⟩ := ty_cells hbx2
    dsimp only [slv] at y0 y1 y2
    obtain ⟨G1, hG1, hT1⟩ := ((hfr1.below hb2).below hal2).now
    obtain ⟨G2, hG2, hT2⟩ := (hfr2.below hal2).now
    rw [hf1] at hG1
    rw [hf2] at hG2
    have hsame := same_img hG1 hG2
    have hs1 := hG1.size
    have hs2 := hG2.size
    have hS := rsame_any (G1.size + 1) G1 G2 o1.ty.1 o1.ty.2.1 o1.ty.1 o1.ty.2.1 (.slice u1 u2 u3) (.slice v1 v2 v3) (w2.alloc (.cells #[.int .i64 o1.ty.1, .int .i64 o1.ty.2.1, .slice v1 v2 v3] 28)) (by omega) (by omega) (by omega) hT1 hT2
    rw [hsame] at hS
    simp only [beq_self_eq_true, Bool.and_self, tyVal] at hS
    have HS := Lib.hid hS
    have HB2 := Lib.hid (hbw2.trans (hal2.mono hbw2.size))
    clear hR1 hf1 hfr1 hbw1 hbx1 hsm1 hR2 hf2 hfr2 hb2 hbw2 hbx2 hal2 hG1 hG2 hT1 hT2 hsame hs1 hs2 hS hlw1 c0 c1 d0 d1 e0 e1
    generalize o1.no = q1 at *
    generalize o1.pos = q2 at *
    go_wp2_with fail
    refine HS.out.mono ?_
    rintro e w3 ⟨rfl, hb3⟩
    have HB3 := Lib.hid (HB2.out.trans (hb3.mono HB2.out.size))
    have HAW := Lib.hid (awake4_any w3 (HT.out.below HB3.out))
    clear hb3
    go_wp2_with fail
    refine HAW.out.mono ?_
    rintro e w4 ⟨rfl, hb4⟩
    have HB4 := Lib.hid (HB0.out.1.trans ((HB3.out.trans (hb4.mono HB3.out.size)).mono HB0.out.1.size))
    clear hb4
    go_wp2_with fail
    go_ret
    exact ⟨rfl, HB4.out⟩
end Go.Proofs.YtjmbkkpglkbppaaDoor
namespace Go.Proofs.YtjmbkkpglkbppaaDoor.SignatureReads
open Go.ChangeShapes Go.WideShapes Go.ChangeAt Go.RowKit Go.Proofs.YtjmbkkpglkbppaaDoor.Card
set_option linter.unusedVariables false

set_option maxRecDepth 100000 in
theorem lifted (os : Os) (started : os.Started) (H : Type) (enc : TypeId × Value → H) :
    ReturnsInHanded {} Tryd.checked os 3 .any (fun w args => (Rows.signatureReadsSpec.pre enc Tryd.prog Tryd.f3 [] false w args ∧ laidMetH Tryd.prog laid3 w) ∧ sizedMet enc Tryd.prog Tryd.f3 (OpenSpec.ofChange Rows.signatureReadsSpec) false w args)
      (Rows.signatureReadsSpec.post enc Tryd.prog Tryd.f3 false true false false) := by
  refine returnsInHanded_of_change_and (C := Tryd.checked) (X := fun w _ => laidMetH Tryd.prog laid3 w) (fun _ _ _ hh h => h.of_heap hh) own started (by kernel_rfl) Tryd.func3
    (ChangeSpec.witness_shaped (enc := enc) (C := Tryd.checked) (os := os) (X := fun w _ => laidMetH Tryd.prog laid3 w) false (World.doorLaid Tryd.prog 400 os) #[.slice none 0 0, .int .i64 0, .agg #[.int .i64 0, .int .i64 0]] 8 rfl (World.shaped_of_RefB (by kernel_rfl) (by kernel_rfl)) (by kernel_rfl) (by kernel_rfl) (by kernel_rfl) (door_met os _)) ?_
  intro W base args ds gs before hval0 hW _ _ hL _
  have hval : ∀ (j : Nat) t v, Tryd.f3.params[j]? = some t → args[j]? = some v → Value.okWide Tryd.prog W .any base t v := hval0
  have hW' := hW
  obtain ⟨p, q, hA0, hV, rfl, hfz, hnd⟩ := hW
  have hA : DataW.TrodAll enc Tryd.prog W 0 (fun _ => true) true Tryd.f3.params.toList args.toList ds p := hA0
  rw [Tryd.params3] at hA hval
  obtain ⟨v0, vs0, d0, ds0, p0, q0, hargs, rfl, rfl, h0, r0⟩ := trodAll_cons hA
  obtain ⟨v1, vs1, d1, ds1, p1, q1, rfl, rfl, rfl, h1, r1⟩ := trodAll_cons r0
  obtain ⟨v2, vs2, d2, ds2, p2, q2, rfl, rfl, rfl, h2, r2⟩ := trodAll_cons r1
  obtain ⟨rfl, rfl, rfl⟩ := trodAll_nil r2
  obtain rfl : args = #[v0, v1, v2] := by cases args; simp_all
  obtain ⟨rfl, rfl⟩ := trodVars_none hV
  have z0 := h0
  have lt0 : ∀ x ∈ p0, x.block < W.heap.size := by obtain ⟨m, hm⟩ := z0; exact DataW.trod_lt m _ _ _ hm
  have z1 := h1
  have lt1 : ∀ x ∈ p1, x.block < W.heap.size := by obtain ⟨m, hm⟩ := z1; exact DataW.trod_lt m _ _ _ hm
  have z2 := h2
  have lt2 : ∀ x ∈ p2, x.block < W.heap.size := by obtain ⟨m, hm⟩ := z2; exact DataW.trod_lt m _ _ _ hm
  obtain ⟨L0, hL0⟩ := ArgT_open (hval 0 22 v0 rfl rfl) h0
  obtain ⟨i1, rfl⟩ := okWide_int Tryd.underlying3 (hval 1 3 v1 rfl rfl)
  have bd1 : -9223372036854775808 ≤ i1 ∧ i1 ≤ 9223372036854775807 := by
    obtain ⟨m, hm⟩ := z1
    obtain ⟨x, hx, _, hw⟩ := DataW.trod_int Tryd.underlying3 hm
    simp [Value.cells] at hx
    subst hx
    have e1 : IntKind.i64.min = -9223372036854775808 := by decide
    have e2 : IntKind.i64.max = 9223372036854775807 := by decide
    simp only [Lit.wf, Bool.and_eq_true, decide_eq_true_eq] at hw
    omega
  obtain ⟨a2, b2, rfl, ba2, bb2⟩ := Arg2_open (hval 2 23 v2 rfl rfl) h2
  clear hA0 hval0
  have T := tab_of_laid hL
  refine (reads_any W v0 L0 hL0 i1 bd1 a2 b2 ba2 bb2 T).mono fun e W' ⟨he, bel⟩ => ?_
  subst he
  exact ⟨_, rfl, _, _, _, [], _, [], hW', trodAll_mk1 (shut_bool Tryd.underlying4 _), (trodAll_cons_mk (Below.trod laidOut (by kernel_rfl) (of_decide_eq_true (by kernel_rfl)) z0 bel lt0) (trodAll_cons_mk (Below.trod laidOut (by kernel_rfl) (of_decide_eq_true (by kernel_rfl)) z1 bel lt1) (trodAll_cons_mk (Below.trod laidOut (by kernel_rfl) (of_decide_eq_true (by kernel_rfl)) z2 bel lt2) trodAll_mk0))), rfl, bel.frame _, fun h => by cases h⟩
set_option maxRecDepth 100000 in
theorem over : Rows.SignatureReadsSaid :=
  OpenClaim.holds_of_wide 3 Tryd.f3 rfl rfl rfl rfl rfl rfl rfl ⟨rfl, rfl, rfl, rfl, rfl⟩ rfl rfl rfl rfl rfl (by kernel_rfl) Tryd.func3 (by kernel_rfl)
    (of_decide_eq_true (by kernel_rfl)) (by unfold Func.isWrapper; first | (rw [if_pos (by decide +kernel)]; kernel_rfl) | (rw [if_neg (by decide +kernel)]; exact ⟨rfl, rfl⟩))
    (fun os started H enc _ => lifted os started H enc)
theorem proved : Rows.SignatureReadsCardSaid :=
  Claim7.holds_tied_plain_at .later [] [.data, .data, .data] true (true, _) false
    over (fun _ h => by cases h) (by kernel_rfl) (fun _ h => by cases h) signatureReads_row_tie rfl ⟨rfl, rfl⟩ (by kernel_rfl) rfl
    (fun f fn hf hfn => by
      obtain rfl : f = 3 := Option.some.inj ((show Tryd.prog.funcNamed "pangram/pangramlaw04.SignatureReads" = some 3 by kernel_rfl).symm.trans hf) |>.symm
      obtain rfl : fn = Tryd.f3 := (Option.some.inj (Tryd.func3.symm.trans hfn)).symm
      exact ⟨by kernel_rfl, fun j t ht => by
        rw [Tryd.params3] at ht
        have hm : t ∈ [22, 3, 23] := by simpa using Array.mem_of_getElem? ht
        have hall : ([22, 3, 23].all fun u => !Tryd.prog.wantsStandIn u) = true := by kernel_rfl
        exact (show Tryd.prog.wantsStandIn t = false by simpa using List.all_eq_true.1 hall t hm)⟩)
    (by kernel_rfl)
#print axioms proved
end Go.Proofs.YtjmbkkpglkbppaaDoor.SignatureReads
