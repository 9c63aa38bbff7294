/- Texts of one proof, one behind the other. -/
import Derived.Test.YtifdbmdfkhnojaaDoorMgSubstThen28
import Derived.Test.YtifdbmdfkhnojaaDoorMgSubstThen29
import Derived.Test.YtifdbmdfkhnojaaDoorMgSubstThen8
import Derived.Test.YtifdbmdfkhnojaaDoorMgSubstThen12
import Derived.Test.YtifdbmdfkhnojaaDoorRows
import Derived.Test.YtifdbmdfkhnojaaDoorTie
import Derived.Test.YtifdbmdfkhnojaaDoorCards
import Derived.ProofKit
import Derived.LaidMore
import Derived.OpenShut
import Derived.Stop.Joined
import Derived.Lib.LaidTab
import Derived.SevenTiedAt
/- SubstThen, walked. -/
namespace Go.Proofs.YtifdbmdfkhnojaaDoor
open Go.RowKit Go.Shelf
theorem eq3_of' {f g : Fo} {x y : Int × Int × Fo} (hf : f.pure = x.2.2) (hg : g.pure = y.2.2) : (x.1 == y.1 && x.2.1 == y.2.1 && f.same g) = eq3 x y := by
  unfold eq3
  rw [same_pure f g, hf, hg]
theorem pb_sizes {L : List Bnd} {P : List Pb} (h : L.map pb = P) {S : Nat} (hP : ∀ p ∈ P, p.2.2.2.size ≤ S) : ∀ x ∈ L, x.2.2.2.2.size ≤ S := fun x hx => by
  have := hP (pb x) (by rw [← h]; exact List.mem_map.2 ⟨x, hx, rfl⟩)
  rwa [pb, Fo.pure_size] at this
theorem thenP_sizes {a b : List Bnd} (ha : ∀ x ∈ a, 1 + x.2.2.2.2.size ≤ 400) (hb : ∀ x ∈ b, 1 + x.2.2.2.2.size ≤ 400) : ∀ p ∈ thenP a b, p.2.2.2.size ≤ 1000000 := fun p hp => by
  rcases thenP_mem hp with ⟨y, hy, rfl⟩ | ⟨y, hy, rfl⟩
  · have h1 := sub1_le (sg b) 400 (by omega) (sg_size hb) y.2.1 y.2.2.1 y.2.2.2.2
    have h2 := ha y hy
    have : 400 * (1 + y.2.2.2.2.size) ≤ 400 * 400 := Nat.mul_le_mul_left _ h2
    simp only
    omega
  · have h2 := hb y hy
    simp only [pb, Fo.pure_size]
    omega
theorem onlyP_sizes {a : List Bnd} {vs : List Int} (ha : ∀ x ∈ a, 1 + x.2.2.2.2.size ≤ 400) : ∀ p ∈ onlyP a vs, p.2.2.2.size ≤ 1000000 := fun p hp => by
  unfold onlyP at hp
  obtain ⟨x, hx, rfl⟩ := List.mem_map.1 hp
  have h2 := ha x (cnt_sub (List.mem_filter.1 hx).1)
  simp only [pb, Fo.pure_size]
  omega
set_option maxHeartbeats 4000000 in
set_option maxRecDepth 100000 in
theorem then_law (w : World) (ht : Tab w) (a b : List Bnd) (va vb vv : Value) (vs : List Int) (h0 : BdV w.heap.size w a va) (h1 : BdV w.heap.size w b vb) (w0 : BdW a) (w1 : BdW b) (hR : Rd w 1 vv vs.length (ints vs)) (hcap : vs.length ≤ 9223372036854775807) (hvw : ∀ v ∈ vs, (Lit.int .i64 v).wf = true) :
    Calls Tryd.prog 4 #[va, vb, vv] w fun e w' => e = .returned (.bool true) ∧ Below w.heap.size w w' := by
  obtain ⟨A0, c0, rfl⟩ := h0.form
  obtain ⟨A1, c1, rfl⟩ := h1.form
  obtain ⟨AV, cv, rfl⟩ := hR.form
  have aw : ∀ W, Below w.heap.size w W → Calls Tryd.prog 10 #[] W fun e w' => e = .returned (.bool true) ∧ Below w.heap.size w w' := fun W hb => (awake10 W (ht.below hb)).mono fun e w' ⟨q1, q2⟩ => ⟨q1, hb.trans (q2.mono hb.size)⟩
  have gr : ∀ (l : List Bnd) (v : Value), BdV w.heap.size w l v → ∀ W, Below w.heap.size w W → Calls Tryd.prog 8 #[v] W fun e w' => e = .returned (.bool (greatV l)) ∧ Below w.heap.size w w' := fun l v hl W hb => (great_bind W l v (hl.later hb)).mono fun e w' ⟨q1, q2⟩ => ⟨q1, hb.trans (q2.mono hb.size)⟩
  have AW := Lib.hid aw
  have G0 := Lib.hid (gr a _ h0)
  have G1 := Lib.hid (gr b _ h1)
  have GF := Lib.hid (fun (l : List Bnd) (h : greatV l = false) => (show l.length ≤ 24 ∧ ∀ x ∈ l, 1 + x.2.2.2.2.size ≤ 400 from ⟨(greatV_false h).1, fun x hx => by have := tsum_mem hx; have := (greatV_false h).2.2; omega⟩))
  have H0 := Lib.hid h0
  have H1 := Lib.hid h1
  have HR := Lib.hid hR
  clear aw gr h0 h1 hR
  go_enter Tryd.func4, Tryd.ntmps4
  go_wp2_with fail
  refine (G0.out _ (Below.refl _ _)).mono ?_
  rintro e wa ⟨rfl, hba⟩
  cases hg0 : greatV a
  rotate_left
  · go_wp2_with fail
    refine (AW.out _ hba).mono ?_
    rintro e wz ⟨rfl, hbz⟩
    go_wp2_with fail
    go_ret
    exact ⟨rfl, hbz⟩
  have g0 := Lib.hid (GF.out a hg0)
  clear hg0
  go_wp2_with fail
  refine (G1.out _ hba).mono ?_
  rintro e wb ⟨rfl, hbb⟩
  cases hg1 : greatV b
  rotate_left
  · go_wp2_with fail
    refine (AW.out _ hbb).mono ?_
    rintro e wz ⟨rfl, hbz⟩
    go_wp2_with fail
    go_ret
    exact ⟨rfl, hbz⟩
  have g1 := Lib.hid (GF.out b hg1)
  clear hg1
  by_cases hv : vs.length ≤ 40
  rotate_left
  · have f1 : decide ((vs.length : Int) > (40 : Int)) = true := by simp; omega
    go_wp2_with fail
    refine (AW.out _ hbb).mono ?_
    rintro e wz ⟨rfl, hbz⟩
    go_wp2_with fail
    go_ret
    exact ⟨rfl, hbz⟩
  have f1 : decide ((vs.length : Int) > (40 : Int)) = false := by simp; omega
  have hl0 := g0.out.1
  have hl1 := g1.out.1
  have hG : ∀ W, Below w.heap.size w W → BdG W a (.slice A0 a.length c0) 1000000 ∧ BdG W b (.slice A1 b.length c1) 1000000 := fun W hb =>
    ⟨⟨H0.out.later hb, w0, by omega, fun x hx => by have := g0.out.2 x hx; omega⟩, ⟨H1.out.later hb, w1, by omega, fun x hx => by have := g1.out.2 x hx; omega⟩⟩
  have HG := Lib.hid hG
  have HBB := Lib.hid hbb
  clear hG hba hbb G0 G1 GF
  go_wp2_with fail
  go_loopw [7, 8] (fun s7 s8 wr => ∃ j : Nat, s8 = .int .i64 j ∧ s7 = .bool (alikeV a b (vs.take j)) ∧ j ≤ vs.length ∧ Below w.heap.size w wr) (fun _ s _ => vs.length - (intOf s).toNat)
  case atStart => exact ⟨0, rfl, rfl, Nat.zero_le _, HBB.out⟩
  case round =>
    obtain ⟨j, rfl, rfl, hj, hb⟩ := hrel
    by_cases hjl : j < vs.length
    · obtain ⟨_, hrd⟩ := HR.out
      rcases hrd with ⟨h0, _⟩ | ⟨gb, goff, gcap, he, _, _, hgb, hgat⟩
      · omega
      injection he with e1 _ e3
      subst e1; subst e3
      have k0 : wr.cell? ⟨gb, goff + j, none⟩ = some (.int .i64 vs[j]) := (hb.cell (p := ⟨gb, goff + j, none⟩) hgb).trans (hgat j _ (by simp [ints, hjl]))
      have htk : vs.take (j + 1) = vs.take j ++ [vs[j]] := by rw [List.take_succ_eq_append_getElem hjl]
      obtain ⟨x, hx⟩ : ∃ x, vs[j] = x := ⟨_, rfl⟩
      rw [hx] at k0 htk
      obtain ⟨W1, hW1⟩ : ∃ W1, wr.alloc (.cells #[.int .i64 1, .int .i64 x, .slice none 0 0] 25) = W1 := ⟨_, rfl⟩
      have hb1 : Below w.heap.size w W1 := by rw [← hW1]; exact hb.alloc hb.size _
      have hB1 : W1.heap[wr.heap.size]? = some (.cells #[.int .i64 1, .int .i64 x, .slice none 0 0] 25) := by rw [← hW1]; exact heap_alloc_new _ _
      have hlt : wr.heap.size < W1.heap.size := by rw [← hW1]; simp
      have e0 : W1.cell? ⟨wr.heap.size, 0, none⟩ = some (.int .i64 1) := cell_of_row W1 _ 0 _ _ (0, 0) hB1
      have e1 : W1.cell? ⟨wr.heap.size, 1, none⟩ = some (.int .i64 x) := cell_of_row W1 _ 1 _ _ (0, 0) hB1
      have e2 : W1.cell? ⟨wr.heap.size, 2, none⟩ = some (.slice none 0 0) := cell_of_row W1 _ 2 _ _ (0, 0) hB1
      have htv : alikeV a b (vs.take (j + 1)) = (alikeV a b (vs.take j) && eq3 (Fo.sub1 (sg a) 1 x .nil) (Fo.sub1 (sg b) 1 x .nil)) := by
        rw [htk]; unfold alikeV; rw [List.all_append]; simp
      have HTV := Lib.hid htv
      have HX := Lib.hid hx
      have HB1 := Lib.hid hb1
      have HW1 := Lib.hid hW1
      clear htv htk hx hgat hb hW1
      cases hq : alikeV a b (vs.take j)
      · have hv2 := HTV.out
        rw [hq, Bool.false_and] at hv2
        have HV2 := Lib.hid hv2
        clear hv2 hq hb1
        go_wp2_with fail
        rw [HW1.out]
        go_quiet (fail)
        go_wp2_with fail
        go_roundw
        case rel => exact ⟨j + 1, by go_num, by rw [HV2.out], by omega, HB1.out.trans ⟨rfl, rfl, rfl, Nat.le_refl _, fun _ _ => rfl⟩⟩
        case measure => simp [intOf]; omega
      · have hv2 := HTV.out
        rw [hq, Bool.true_and] at hv2
        obtain ⟨KA, hKA⟩ : ∃ K, Fo.sub1 (sg a) 1 x .nil = K := ⟨_, rfl⟩
        obtain ⟨KB, hKB⟩ : ∃ K, Fo.sub1 (sg b) 1 x .nil = K := ⟨_, rfl⟩
        have hsa := sub1_size a 400 g0.out.2 (by omega) x
        have hsb := sub1_size b 400 g1.out.2 (by omega) x
        rw [hKA, hKB] at hv2
        rw [hKA] at hsa
        rw [hKB] at hsb
        have t1 : Calls Tryd.prog 11 #[.slice A0 a.length c0, .agg #[.int .i64 1, .int .i64 x, .slice none 0 0]] W1.drew fun e w' => ∃ (r1 : Option Addr) (r2 r3 : Nat) (R : Fo), e = .returned (.agg #[.int .i64 KA.1, .int .i64 KA.2.1, .slice r1 r2 r3]) ∧ TyV w'.heap.size w' R (.slice r1 r2 r3) ∧ R.pure = KA.2.2 ∧ Below W1.heap.size W1 w' := by
          refine (rapply_any w.heap.size a _ (by omega) 1 .nil 1 x (none, 0, 0) W1.drew (by simp [Fo.size]) (by simp [Fo.size]) hb1.size (H0.out.below hb1.drew) (no_parts _ _)).mono ?_
          rintro e w' ⟨⟨r1, r2, r3⟩, q1, q2, q3⟩
          rw [hKA] at q1 q3
          obtain ⟨R, q4, q5⟩ := q3.now
          exact ⟨r1, r2, r3, R, q1, q5, q4, (Below.refl W1.heap.size W1).drew.trans q2⟩
        have t2 : ∀ (W : World) (r1 : Option Addr) (r2 r3 : Nat) (R : Fo), Below W1.heap.size W1 W → TyV W.heap.size W R (.slice r1 r2 r3) → Calls Tryd.prog 11 #[.slice A1 b.length c1, .agg #[.int .i64 1, .int .i64 x, .slice none 0 0]] W fun e w' => ∃ (s1 : Option Addr) (s2 s3 : Nat) (S : Fo), e = .returned (.agg #[.int .i64 KB.1, .int .i64 KB.2.1, .slice s1 s2 s3]) ∧ TyV w'.heap.size w' S (.slice s1 s2 s3) ∧ S.pure = KB.2.2 ∧ TyV w'.heap.size w' R (.slice r1 r2 r3) ∧ Below W1.heap.size W1 w' := by
          intro W r1 r2 r3 R hb hR
          have hbw := hb1.trans (hb.mono hb1.size)
          refine (rapply_any w.heap.size b _ (by omega) 1 .nil 1 x (none, 0, 0) W (by simp [Fo.size]) (by simp [Fo.size]) hbw.size (H1.out.below hbw) (no_parts _ _)).mono ?_
          rintro e w' ⟨⟨s1, s2, s3⟩, q1, q2, q3⟩
          rw [hKB] at q1 q3
          obtain ⟨S, q4, q5⟩ := q3.now
          exact ⟨s1, s2, s3, S, q1, q5, q4, hR.later q2, hb.trans (q2.mono hb.size)⟩
        have t3 : ∀ (W : World) (r1 : Option Addr) (r2 r3 : Nat) (R : Fo) (s1 : Option Addr) (s2 s3 : Nat) (S : Fo), Below W1.heap.size W1 W → TyV W.heap.size W R (.slice r1 r2 r3) → R.pure = KA.2.2 → TyV W.heap.size W S (.slice s1 s2 s3) → S.pure = KB.2.2 → Calls Tryd.prog 12 #[.agg #[.int .i64 KA.1, .int .i64 KA.2.1, .slice r1 r2 r3], .agg #[.int .i64 KB.1, .int .i64 KB.2.1, .slice s1 s2 s3]] W fun e w' => e = .returned (.bool (eq3 KA KB)) ∧ Below W1.heap.size W1 w' := by
          intro W r1 r2 r3 R s1 s2 s3 S hb hR hRp hS hSp
          refine (rsame_any (R.size + 1) R S KA.1 KA.2.1 KB.1 KB.2.1 (.slice r1 r2 r3) (.slice s1 s2 s3) W (by omega) (by rw [← Fo.pure_size, hRp]; omega) (by rw [← Fo.pure_size, hSp]; omega) hR hS).mono ?_
          rintro e w' ⟨q1, q2⟩
          rw [eq3_of' (x := KA) (y := KB) hRp hSp] at q1
          exact ⟨q1, hb.trans (q2.mono hb.size)⟩
        have kc : ∀ W, Below W1.heap.size W1 W → W.cell? ⟨wr.heap.size, 0, none⟩ = some (.int .i64 1) ∧ W.cell? ⟨wr.heap.size, 1, none⟩ = some (.int .i64 x) ∧ W.cell? ⟨wr.heap.size, 2, none⟩ = some (.slice none 0 0) := fun W h =>
          ⟨(h.cell (p := ⟨wr.heap.size, 0, none⟩) hlt).trans e0, (h.cell (p := ⟨wr.heap.size, 1, none⟩) hlt).trans e1, (h.cell (p := ⟨wr.heap.size, 2, none⟩) hlt).trans e2⟩
        have kd := kc W1.drew (Below.refl W1.heap.size W1).drew
        have T1 := Lib.hid t1
        have T2 := Lib.hid t2
        have T3 := Lib.hid t3
        have KC := Lib.hid kc
        have HV2 := Lib.hid hv2
        clear t1 t2 t3 kc hv2 hq hb1 hsa hsb hKA hKB hB1
        go_wp2_with fail
        rw [HW1.out]
        go_region_held3 (fun W => W.cell? ⟨wr.heap.size, 0, none⟩ = some (.int .i64 1) ∧ W.cell? ⟨wr.heap.size, 1, none⟩ = some (.int .i64 x) ∧ W.cell? ⟨wr.heap.size, 2, none⟩ = some (.slice none 0 0))
          (first | exact kd | exact kx3 | exact kx2 | exact kx1)
          (first
            | (go_at_call 11; with_reducible refine T1.out.mono ?_; rintro e y1 ⟨p1, p2, p3, R, rfl, hR1, hR2, hx1⟩; have kx1 := KC.out _ hx1)
            | (go_at_call 11; with_reducible refine (T2.out _ _ _ _ _ hx1 hR1).mono ?_; rintro e y2 ⟨q1, q2, q3, S, rfl, hS1, hS2, hS3, hx2⟩; have kx2 := KC.out _ hx2)
            | (go_at_call 12; with_reducible refine (T3.out _ _ _ _ _ _ _ _ _ hx2 hS3 hR2 hS1 hS2).mono ?_; rintro e y3 ⟨rfl, hx3⟩; have kx3 := KC.out _ hx3))
        have HF := Lib.hid (HB1.out.trans (hx3.mono HB1.out.size))
        clear kd kx1 kx2 kx3 hx1 hx2 hx3 hR1 hR2 hS1 hS2 hS3 T1 T2 T3
        go_wp2_with fail
        go_roundw
        case rel => exact ⟨j + 1, by go_num, by rw [HV2.out], by omega, HF.out⟩
        case measure => simp [intOf]; omega
    · obtain rfl : j = vs.length := by omega
      rw [List.take_length]
      have hq0 := HG.out wr hb
      have t1 := then_bind wr a b _ _ hq0.1 hq0.2
      have zt := thenP_sizes g0.out.2 g1.out.2
      have zo := onlyP_sizes (vs := vs) g0.out.2
      have hPl := thenP_len a b
      have hOl : (onlyP a vs).length ≤ 24 := by
        unfold onlyP
        rw [List.length_map]
        exact Nat.le_trans (onlyP_filter_len a _) hl0
      have T1 := Lib.hid t1
      have ZT := Lib.hid zt
      have ZO := Lib.hid zo
      have HBR := Lib.hid hb
      clear t1 zt zo hq0 hb
      go_wp2_with fail
      refine T1.out.mono ?_
      clear T1
      rintro e y1 ⟨r1, L1, rfl, hL1, hP1, hb1⟩
      have hb01 := HBR.out.trans (hb1.mono HBR.out.size)
      have t2 := rthen_bind y1 a b _ _ (HG.out _ hb01).1 (HG.out _ hb01).2
      have T2 := Lib.hid t2
      have HB01 := Lib.hid hb01
      clear t2 hb1 hb01
      go_wp2_with fail
      refine T2.out.mono ?_
      clear T2
      rintro e y2 ⟨r2, L2, rfl, hL2, hP2, hb2⟩
      have hb02 := HB01.out.trans (hb2.mono HB01.out.size)
      have hlen1 : L1.length = (thenP a b).length := by rw [← hP1]; simp
      have t3 := rsame_bind y2 L1 L2 r1 r2 (hL1.later hb2) hL2 (hP1.trans hP2.symm) (pb_sizes hP1 ZT.out) (by omega)
      have T3 := Lib.hid t3
      have HB02 := Lib.hid hb02
      clear t3 hb2 hb02 hL1 hL2 hP1 hP2 hlen1
      go_wp2_with fail
      refine T3.out.mono ?_
      clear T3
      rintro e y3 ⟨rfl, hb3⟩
      have hb03 := HB02.out.trans (hb3.mono HB02.out.size)
      have t4 := only_bind y3 a _ _ vs (HG.out _ hb03).1 (HR.out.below hb03) (by omega) hvw
      have T4 := Lib.hid t4
      have HB03 := Lib.hid hb03
      clear t4 hb3 hb03
      go_wp2_with fail
      refine T4.out.mono ?_
      clear T4
      rintro e y4 ⟨r4, L4, rfl, hL4, hP4, hb4⟩
      have hb04 := HB03.out.trans (hb4.mono HB03.out.size)
      have t5 := ronly_bind y4 a _ _ vs (HG.out _ hb04).1 (HR.out.below hb04) (by omega)
      have T5 := Lib.hid t5
      have HB04 := Lib.hid hb04
      clear t5 hb4 hb04
      go_wp2_with fail
      refine T5.out.mono ?_
      clear T5
      rintro e y5 ⟨r5, L5, rfl, hL5, hP5, hb5⟩
      have hb05 := HB04.out.trans (hb5.mono HB04.out.size)
      have hlen4 : L4.length = (onlyP a vs).length := by rw [← hP4]; simp
      have t6 := rsame_bind y5 L4 L5 r4 r5 (hL4.later hb5) hL5 (hP4.trans hP5.symm) (pb_sizes hP4 ZO.out) (by omega)
      have T6 := Lib.hid t6
      have HB05 := Lib.hid hb05
      clear t6 hb5 hb05 hL4 hL5 hP4 hP5 hlen4
      go_wp2_with fail
      refine T6.out.mono ?_
      clear T6
      rintro e y6 ⟨rfl, hb6⟩
      have hb06 := HB05.out.trans (hb6.mono HB05.out.size)
      have t7 := alike_bind y6 a b _ _ _ vs (HG.out _ hb06).1 (HG.out _ hb06).2 (HR.out.below hb06) (by omega) hvw
      have T7 := Lib.hid t7
      have HB06 := Lib.hid hb06
      obtain ⟨q, hq⟩ : ∃ q, alikeV a b vs = q := ⟨_, rfl⟩
      rw [hq] at T7 ⊢
      have fq : (q == q) = true := by simp
      clear t7 hb6 hb06 hq
      go_wp2_with fail
      refine T7.out.mono ?_
      clear T7
      rintro e y7 ⟨rfl, hb7⟩
      have hb07 := HB06.out.trans (hb7.mono HB06.out.size)
      go_wp2_with fail
      refine (AW.out _ hb07).mono ?_
      rintro e y8 ⟨rfl, hb8⟩
      go_wp2_with fail
      go_ret
      exact ⟨rfl, hb8⟩
end Go.Proofs.YtifdbmdfkhnojaaDoor
/- What the cards of types share: the table that is laid. -/
namespace Go.Proofs.YtifdbmdfkhnojaaDoor.Card
open Go.ChangeShapes Go.WideShapes Go.ChangeAt Go.RowKit
set_option linter.unusedVariables false

theorem own : ownKnob Tryd.prog.godebug = none := by kernel_rfl
theorem laidOut : laidOutB Tryd.prog = true := by kernel_rfl
/-- What the row lists. -/
def laid3 : List (String × DataW Unit) := [("math/bits.deBruijn32tab", Rows.laid_math_bits_deBruijn32tab), ("math/bits.deBruijn64tab", Rows.laid_math_bits_deBruijn64tab), ("internal/strconv.uint64pow10", Rows.laid_internal_strconv_uint64pow10)]
theorem tabEq : (Rows.laid_internal_strconv_uint64pow10 : DataW Unit) = Lib.tabData .u64 Lib.pow10Tab := by rfl
theorem gPow : ∃ g t, Tryd.prog.globalNamed "internal/strconv.uint64pow10" = some g ∧ (Tryd.prog.globals[g]?).map (·.type) = some t ∧ ∃ n e, Tryd.prog.underlying t = some (.array n e) ∧ Tryd.prog.underlying e = some (.int .u64) ∧ Tryd.prog.cellsOf e = 1 ∧ Tryd.prog.cellsOf t = n := by
  exact ⟨0, 131, by kernel_rfl, by kernel_rfl, 20, 125, by kernel_rfl, by kernel_rfl, by kernel_rfl, by kernel_rfl⟩
theorem tab_of_laid {W : World} (h : laidMetH Tryd.prog laid3 W) : Tab W := by
  rw [MakeChecks.laidMetH_plain _ _ _ (by kernel_rfl)] at h
  obtain ⟨g, t, hg, hty, n, e, ht, he, hce, hct⟩ := gPow
  obtain ⟨ps, ⟨_, _, _, _, _, _, _, _, _, _, ⟨_, _, _, _, _, _, _, _, _, _, ⟨g', t', cs, fuel, p, q, hg', ht', hvar, hd, _, _⟩, _⟩, _⟩, _⟩ := h
  obtain rfl := Option.some.inj (hg.symm.trans hg')
  obtain rfl := Option.some.inj (hty.symm.trans ht')
  rw [tabEq] at hd
  unfold Tab Lib.TabIs
  rw [hvar, ← Lib.cells_of_tab ht he hce hct hd]
theorem door_met (os : Os) (args : Array Value) : laidMetH Tryd.prog laid3 ((World.doorLaid Tryd.prog 400 os).forCall (fun _ _ => 0) ⟨#[], args, []⟩).memory :=
  laidMetH_of_parts3 (fuel := 8) (laidMet_of_run' 8 (by kernel_rfl) (by kernel_rfl)) (by kernel_rfl) (by kernel_rfl)
end Go.Proofs.YtifdbmdfkhnojaaDoor.Card
