/- Texts of one proof, one behind the other. -/
import Derived.Test.YtojgiienohpaiaaGreatMgCycleTells31
import Derived.Test.YtojgiienohpaiaaGreatMgCycleTells27
import Derived.Test.YtojgiienohpaiaaGreatMgCycleTells26
import Derived.Test.YtojgiienohpaiaaGreatMgCycleTells25
import Derived.Deep.LoopGhost
import Derived.Test.YtojgiienohpaiaaGreatMgCycleTells28
import Derived.Test.YtojgiienohpaiaaGreatMgCycleTells24
import Derived.Test.YtojgiienohpaiaaGreatMgCycleTells21
namespace Go.Proofs.YtojgiienohpaiaaGreat
open Go.RowKit
open Un (rowI rowI_get Else own_else wp_world)
attribute [local go_sem] Oper.semAt_some
set_option maxRecDepth 100000
section CyRs
variable {D : Nat → Prop} {B : Nat} {vm vs : Value} {M : List Rm} {G : List Gn} {cc : Nat → Nat} {col ro : Nat → Nat} {kn : Kn} {E : List (Nat × Nat)} {R1 R2 : Nat → Prop} {v1 v2 : Nat → Int}
theorem NextIs.few (hg : Gp G) {i : Nat} {P : List Nat} (h : NextIs G cc i P) : P.length ≤ 8 := by
  rcases h with ⟨k, p, h1, _, _, rfl⟩ | ⟨_, rfl⟩
  · exact (hg p (List.mem_of_getElem? h1)).1
  · simp
set_option maxHeartbeats 4000000 in
theorem heavy_any (hB : Both G col ro kn E cc) (hg : Gp G) (hl : G.length ≤ 10000) : ∀ c, AccC G cc c → ∀ (i : Nat) (w : World) (most : Int), cc i = c → i < G.length → 0 < most → most ≤ 5000 → An3 D B w vm vs M G cc →
    Calls Tryz.prog 24 #[.agg #[vm, vs], .int .i64 (i : Nat), .int .i64 most] w fun x w' => (∃ r : Int, x = .returned (.int .i64 r) ∧ 0 ≤ r ∧ r < most) ∧ Below w.heap.size w w' := by
  intro c hc
  induction hc with
  | intro c hacc ih =>
    intro i w most hic hi hm1 hm2 h
    obtain ⟨Am, cm, rfl⟩ := h.row.form
    obtain ⟨As, cs, rfl, _, _⟩ := Un.own_form h.col
    obtain ⟨Q, hQ⟩ : ∃ Q, M.length = Q := ⟨_, rfl⟩
    rw [hQ] at h ih ⊢
    obtain ⟨w0, hw0⟩ : ∃ w0, w.alloc (.cells #[.slice Am Q cm, .slice As Q cs] 33) = w0 := ⟨_, rfl⟩
    have hb0 : Below w.heap.size w w0 := by rw [← hw0]; exact (Below.refl _ _).alloc (Nat.le_refl _) _
    have hx0 : w0.heap[w.heap.size]? = some (.cells #[.slice Am Q cm, .slice As Q cs] 33) := by rw [← hw0]; exact heap_alloc_new _ _
    have hlen := h.len
    replace h := h.below hb0
    have HNX := Lib.hid (next_any h (by omega) hi)
    have HW0 := Lib.hid (And.intro hb0 hx0)
    have HWE := Lib.hid hw0
    have x0 : w0.cell? ⟨w.heap.size, 0, none⟩ = some (.slice Am Q cm) := cell_of_row w0 _ 0 _ _ (0, 0) hx0
    have x1 : w0.cell? ⟨w.heap.size, 1, none⟩ = some (.slice As Q cs) := cell_of_row w0 _ 1 _ _ (0, 0) hx0
    have IH := Lib.hid ih
    have H := Lib.hid (And.intro h (And.intro hic (And.intro hi (And.intro hl (And.intro hm1 hm2)))))
    have hiQ : i ≤ 10000 := by omega
    obtain ⟨mo, hmo⟩ : ∃ mo : Nat, most = (mo : Nat) + 1 := ⟨(most - 1).toNat, by omega⟩
    subst hmo
    have hmob : mo ≤ 5000 := by omega
    clear ih h hic hi hl hm1 hm2 hacc hQ hlen hb0 hx0 hw0
    go_enter Tryz.func24, Tryz.ntmps24
    go_upto_region 1 with fail
    rw [HWE.out]
    go_wp2_with fail
    refine HNX.out.mono ?_
    clear HNX
    rintro x w2 ⟨⟨v, P, rfl, hrd, hP⟩, hb2⟩
    obtain ⟨AP, cP, rfl⟩ := hrd.form
    obtain ⟨q, hq⟩ : ∃ q, P.length = q := ⟨_, rfl⟩
    have hq8 := hP.few hg
    have hP_lt := hP.lt (fun p hp => (hg p hp).2)
    have hP_st : ∀ u ∈ P, Cs G cc c (cc u) := fun u hu => by
      rw [← H.out.2.1]
      exact (hP.all hB H.out.2.2.1 _).2 ⟨u, hu, rfl⟩
    rw [hq] at hrd hq8 ⊢
    have H2 := Lib.hid (And.intro hrd (And.intro hP (And.intro hq hb2)))
    have H3 := Lib.hid (And.intro hP_lt hP_st)
    clear hrd hP hq hb2 hP_lt hP_st
    clear x0 x1
    go_wp2_with fail
    go_loopg [2, 8] q (fun nn s2 s8 wr => ∃ (k t : Nat), s8 = .int .i64 (k : Nat) ∧ k ≤ q ∧ q ≤ k + nn ∧ s2 = .int .i64 (t : Nat) ∧ t ≤ mo ∧ Below w2.heap.size w2 wr)
    case atStart => exact ⟨0, mo, rfl, Nat.zero_le _, by omega, rfl, Nat.le_refl _, Below.refl _ _⟩
    case round =>
      obtain ⟨k, t, rfl, hk, hkn, rfl, ht, hb⟩ := hrel
      have hb02 : Below w0.heap.size w0 wr := H2.out.2.2.2.trans (hb.mono H2.out.2.2.2.size)
      have hbt : Below w.heap.size w wr := HW0.out.1.trans (hb02.mono HW0.out.1.size)
      have hx := (hb02.block _ (Array.getElem?_eq_some_iff.1 HW0.out.2).1).trans HW0.out.2
      have y0 : wr.cell? ⟨w.heap.size, 0, none⟩ = some (.slice Am Q cm) := cell_of_row wr _ 0 _ _ (0, 0) hx
      have y1 : wr.cell? ⟨w.heap.size, 1, none⟩ = some (.slice As Q cs) := cell_of_row wr _ 1 _ _ (0, 0) hx
      have HI := Lib.hid (And.intro hkn (And.intro hb (And.intro hb02 hbt)))
      clear hkn hb hb02 hbt hx
      by_cases hkl : k < q
      · have g1 : decide ((k : Int) < (q : Int)) = true := decide_eq_true (by omega)
        have g2 : decide (k < q) = true := decide_eq_true hkl
        by_cases ht0 : 0 < t
        · have g3 : decide ((0 : Int) < (t : Int)) = true := decide_eq_true (by omega)
          have g4 : decide (0 < t) = true := decide_eq_true ht0
          obtain ⟨d, hd⟩ : ∃ d, P[k]? = some d := ⟨_, List.getElem?_eq_getElem (by rw [H2.out.2.2.1]; exact hkl)⟩
          have hdP := List.mem_of_getElem? hd
          have hdG := H3.out.1 d hdP
          obtain ⟨bq, oq, cap, hv, _, _, hlt, hcel⟩ := H2.out.1.1.2.resolve_left (by rintro ⟨h, _⟩; omega)
          injection hv with e1 e2 e3
          subst e1
          clear e2 e3
          have y2 : wr.cell? ⟨bq, oq + k, none⟩ = some (.int .i64 (d : Nat)) := (HI.out.2.1.cell (p := ⟨bq, oq + k, none⟩) hlt).trans (hcel k _ (nums_get hd))
          have EX : Hid (∀ W, Below wr.heap.size wr W → W.cell? ⟨w.heap.size, 0, none⟩ = some (.slice Am Q cm) ∧ W.cell? ⟨w.heap.size, 1, none⟩ = some (.slice As Q cs) ∧ W.cell? ⟨bq, oq + k, none⟩ = some (.int .i64 (d : Nat))) := Lib.hid fun W hW => ⟨(hW.cell (p := ⟨w.heap.size, 0, none⟩) (by have h1 := HI.out.2.2.1.size; have h2 := (Array.getElem?_eq_some_iff.1 HW0.out.2).1; show w.heap.size < wr.heap.size; omega)).trans y0, (hW.cell (p := ⟨w.heap.size, 1, none⟩) (by have h1 := HI.out.2.2.1.size; have h2 := (Array.getElem?_eq_some_iff.1 HW0.out.2).1; show w.heap.size < wr.heap.size; omega)).trans y1, (hW.cell (p := ⟨bq, oq + k, none⟩) (by have h1 := HI.out.2.1.size; have h2 : bq < w2.heap.size := hlt; show bq < wr.heap.size; omega)).trans y2⟩
          have HK := Lib.hid (And.intro hkl (And.intro ht0 (And.intro hdG (H3.out.2 d hdP))))
          have hdb : d ≤ 10000 := by have := H.out.2.2.2.1; omega
          clear hd hdP hdG hlt hcel y0 y1 y2
          go_wp2_with fail
          have hS : Below wr.heap.size wr wr.drew := (Below.refl _ _).drew
          refine wp_region_held (S := (fun W => Below wr.heap.size wr W)) (by kernel_rfl) ?_
          change wpAnyH _ _ _ _ _ 8 (List.replicate 8 false).toArray _ wr.drew
          simp only [List.replicate_succ, List.replicate_zero]
          refine any_take (i := 0) (some 24) (.agg #[.slice Am Q cm, .slice As Q cs]) rfl (by rfl) (by kernel_rfl) (by kernel_rfl) (by kernel_rfl) (fun _ _ _ h => h) (Or.inl ⟨by kernel_rfl, (fun W hw => by obtain ⟨n0_, n1_, n2_⟩ := EX.out W hw; clear hw; go_simp)⟩) hS ?_
          simp only [Act.put, List.setIfInBounds_toArray, List.set_cons_zero, List.set_cons_succ]
          refine any_take (i := 1) (some 25) (.slice (some ⟨bq, oq, none⟩) q cP) rfl (by rfl) (by kernel_rfl) (by kernel_rfl) (by kernel_rfl) (fun _ _ _ h => h) (Or.inl ⟨by kernel_rfl, (fun W hw => by clear hw; go_simp)⟩) hS ?_
          simp only [Act.put, List.setIfInBounds_toArray, List.set_cons_zero, List.set_cons_succ]
          refine any_take (i := 2) (some 26) (.int .i64 (k : Nat)) rfl (by rfl) (by kernel_rfl) (by kernel_rfl) (by kernel_rfl) (fun _ _ _ h => h) (Or.inl ⟨by kernel_rfl, (fun W hw => by clear hw; go_simp)⟩) hS ?_
          simp only [Act.put, List.setIfInBounds_toArray, List.set_cons_zero, List.set_cons_succ]
          refine any_take (i := 3) (some 27) (.pointer (some ⟨bq, oq + k, none⟩)) rfl (by rfl) (by kernel_rfl) (by kernel_rfl) (by kernel_rfl) (fun _ _ _ h => h) (Or.inl ⟨by kernel_rfl, (fun W hw => by clear hw; have hkl_ := HK.out.1; go_simp)⟩) hS ?_
          simp only [Act.put, List.setIfInBounds_toArray, List.set_cons_zero, List.set_cons_succ]
          refine any_take (i := 4) (some 28) (.int .i64 (d : Nat)) rfl (by rfl) (by kernel_rfl) (by kernel_rfl) (by kernel_rfl) (fun _ _ _ h => h) (Or.inl ⟨by kernel_rfl, (fun W hw => by obtain ⟨n0_, n1_, n2_⟩ := EX.out W hw; clear hw; go_simp)⟩) hS ?_
          simp only [Act.put, List.setIfInBounds_toArray, List.set_cons_zero, List.set_cons_succ]
          refine any_take (i := 5) (some 29) (.int .i64 (t : Nat)) rfl (by rfl) (by kernel_rfl) (by kernel_rfl) (by kernel_rfl) (fun _ _ _ h => h) (Or.inl ⟨by kernel_rfl, (fun W hw => by clear hw; go_simp)⟩) hS ?_
          simp only [Act.put, List.setIfInBounds_toArray, List.set_cons_zero, List.set_cons_succ]
          refine wpAnyH_all (rs := [6]) (by kernel_rfl) (by simp) fun q' hq' => ?_
          obtain rfl : q' = 6 := by simpa using hq'
          refine ops_call (d := some 30) rfl (by rfl) (by kernel_rfl) (by go_simp) (((IH.out (cc d) HK.out.2.2.2 d _ (t : Nat) rfl HK.out.2.2.1 (by have := HK.out.2.1; omega) (by omega) (H.out.1.below (HI.out.2.2.1.trans (hS.mono HI.out.2.2.1.size))))).mono ?_)
          rintro y w3 ⟨⟨r, rfl, hr0, hr1⟩, hb3⟩
          obtain ⟨r, rfl⟩ := Int.eq_ofNat_of_zero_le hr0
          have hS3 : Below wr.heap.size wr w3 := hS.trans (hb3.mono hS.size)
          refine ⟨_, rfl, hS3, ?_⟩
          simp only [Act.put, List.setIfInBounds_toArray, List.set_cons_zero, List.set_cons_succ]
          refine any_take (i := 7) (some 2) (.int .i64 (r : Nat)) rfl (by rfl) (by kernel_rfl) (by kernel_rfl) (by kernel_rfl) (fun _ _ _ h => h) (Or.inl ⟨by kernel_rfl, (fun W hw => by clear hw; go_simp)⟩) hS3 ?_
          simp only [Act.put, List.setIfInBounds_toArray, List.set_cons_zero, List.set_cons_succ]
          refine wpAnyH_done (by kernel_rfl) ?_ _
          have HR := Lib.hid (And.intro hr1 hS3)
          clear hr0 hr1 hS3 hb3 EX
          go_wp2_with fail
          go_roundg (q - (k + 1))
          case rel => exact ⟨k + 1, r, by go_num, HK.out.1, by omega, rfl, by have := HR.out.1; omega, HI.out.2.1.trans (HR.out.2.mono HI.out.2.1.size)⟩
          case measure => have h1 := HI.out.1; have h2 := HK.out.1; omega
        · have g3 : decide ((0 : Int) < (t : Int)) = false := decide_eq_false (by omega)
          have g4 : decide (0 < t) = false := decide_eq_false ht0
          go_wp2_with fail
          exact bodyPost_ret (results_tmp rfl _ _ _) rfl ⟨⟨(t : Nat), rfl, by omega, by omega⟩, HI.out.2.2.2⟩
      · have g1 : decide ((k : Int) < (q : Int)) = false := decide_eq_false (by omega)
        have g2 : decide (k < q) = false := decide_eq_false hkl
        go_wp2_with fail
        exact bodyPost_ret (results_tmp rfl _ _ _) rfl ⟨⟨(t : Nat), rfl, by omega, by omega⟩, HI.out.2.2.2⟩
set_option maxHeartbeats 4000000 in
theorem told_any (hB : Both G col ro kn E cc) (hg : Gp G) (hl : G.length ≤ 10000) (hM1 : MsN G E maxI R1 v1) (hM2 : MsN G E (fun a b => a + b) R2 v2) : ∀ c, AccC G cc c → ∀ (i : Nat) (w : World), cc i = c → i < G.length → R1 i → R2 i → An3 D B w vm vs M G cc →
    Calls Tryz.prog 25 #[.agg #[vm, vs], .int .i64 (i : Nat)] w fun x w' => x = .returned (.tuple #[.int .i64 (v1 i), .int .i64 (v2 i)]) ∧ Below w.heap.size w w' := by
  have hpl : ∀ p ∈ G, ∀ u ∈ p.2.2.2, u < G.length := fun p hp => (hg p hp).2
  intro c hc
  induction hc with
  | intro c hacc ih =>
    intro i w hic hi hR1 hR2 h
    obtain ⟨Am, cm, rfl⟩ := h.row.form
    obtain ⟨As, cs, rfl, _, _⟩ := Un.own_form h.col
    obtain ⟨Q, hQ⟩ : ∃ Q, M.length = Q := ⟨_, rfl⟩
    rw [hQ] at h ih ⊢
    obtain ⟨w0, hw0⟩ : ∃ w0, w.alloc (.cells #[.slice Am Q cm, .slice As Q cs] 33) = w0 := ⟨_, rfl⟩
    have hb0 : Below w.heap.size w w0 := by rw [← hw0]; exact (Below.refl _ _).alloc (Nat.le_refl _) _
    have hx0 : w0.heap[w.heap.size]? = some (.cells #[.slice Am Q cm, .slice As Q cs] 33) := by rw [← hw0]; exact heap_alloc_new _ _
    replace h := h.below hb0
    have HNX := Lib.hid (next_any h (by omega) hi)
    have HW0 := Lib.hid (And.intro hb0 hx0)
    have HWE := Lib.hid hw0
    have x0 : w0.cell? ⟨w.heap.size, 0, none⟩ = some (.slice Am Q cm) := cell_of_row w0 _ 0 _ _ (0, 0) hx0
    have x1 : w0.cell? ⟨w.heap.size, 1, none⟩ = some (.slice As Q cs) := cell_of_row w0 _ 1 _ _ (0, 0) hx0
    have IH := Lib.hid ih
    have hA : AccC G cc c := Acc.intro c hacc
    have hac : AccC G cc (cc i) := by rw [hic]; exact hA
    have HV := Lib.hid (And.intro (depth_acc hB hpl hM1 hac hi hR1) (size_few hB hpl hM2 (cc i) hac i rfl hi hR2))
    have H := Lib.hid (And.intro h (And.intro hic (And.intro hi (And.intro hl (And.intro hac (And.intro hR1 hR2))))))
    have hiQ : i ≤ 10000 := by omega
    obtain ⟨a1, ha1⟩ : ∃ a, v1 i = a := ⟨_, rfl⟩
    obtain ⟨a2, ha2⟩ : ∃ a, v2 i = a := ⟨_, rfl⟩
    rw [ha1, ha2] at HV ⊢
    have HA12 := Lib.hid (And.intro ha1 ha2)
    clear ih h hic hi hl hacc hQ hb0 hx0 hw0 hA hac hR1 hR2 ha1 ha2
    go_enter Tryz.func25, Tryz.ntmps25
    go_upto_region 1 with fail
    rw [HWE.out]
    go_wp2_with fail
    refine HNX.out.mono ?_
    clear HNX
    rintro x w2 ⟨⟨v, P, rfl, hrd, hP⟩, hb2⟩
    obtain ⟨AP, cP, rfl⟩ := hrd.form
    obtain ⟨q, hq⟩ : ∃ q, P.length = q := ⟨_, rfl⟩
    have hq8 := hP.few hg
    have hP_lt := hP.lt hpl
    have hP_st : ∀ u ∈ P, Cs G cc c (cc u) := fun u hu => by
      rw [← H.out.2.1]
      exact (hP.all hB H.out.2.2.1 _).2 ⟨u, hu, rfl⟩
    have hP_R : ∀ u ∈ P, R1 u ∧ R2 u := fun u hu => ⟨(hM1.next hB H.out.2.2.1 H.out.2.2.2.2.2.1 hP).2 u hu, (hM2.next hB H.out.2.2.1 H.out.2.2.2.2.2.2 hP).2 u hu⟩
    have hP_v : ∀ u ∈ P, (1 ≤ v1 u ∧ v1 u ≤ 10000) ∧ 1 ≤ v2 u ∧ v2 u ≤ mst := fun u hu => by
      have hau : AccC G cc (cc u) := (show AccC G cc c by have h := H.out.2.2.2.2.1; rw [H.out.2.1] at h; exact h).inv (hP_st u hu)
      have h1 := depth_acc hB hpl hM1 hau (hP_lt u hu) (hP_R u hu).1
      have h2 := size_few hB hpl hM2 (cc u) hau u rfl (hP_lt u hu) (hP_R u hu).2
      have h3 := H.out.2.2.2.1
      exact ⟨by omega, h2⟩
    have e1 : a1 = (P.map v1).foldl maxI 0 + 1 := by rw [← HA12.out.1]; exact depth_next hB hpl hM1 H.out.2.2.2.2.1 H.out.2.2.1 H.out.2.2.2.2.2.1 H.out.2.2.2.1 hP
    have e2 : a2 = cut1 (P.map v2) := by rw [← HA12.out.2]; exact (hM2.next hB H.out.2.2.1 H.out.2.2.2.2.2.2 hP).1
    rw [hq] at hrd hq8 ⊢
    have H2 := Lib.hid (And.intro hrd (And.intro hP (And.intro hq (And.intro hb2 (And.intro e1 e2)))))
    have H3 := Lib.hid (And.intro hP_lt (And.intro hP_st (And.intro hP_R hP_v)))
    clear hrd hP hq hb2 hP_lt hP_st hP_R hP_v e1 e2 x0 x1
    go_wp2_with fail
    go_loopg [6, 7, 9, 10, 11] q (fun nn s6 s7 s9 _ _ wr => ∃ (k : Nat) (x y : Int), s9 = .int .i64 (k : Nat) ∧ k ≤ q ∧ q ≤ k + nn ∧ s6 = .int .i64 x ∧ s7 = .int .i64 y ∧ x = ((P.take k).map v1).foldl maxI 0 ∧ y = cut1 ((P.take k).map v2) ∧ Below w2.heap.size w2 wr)
    case atStart => exact ⟨0, 0, 1, rfl, Nat.zero_le _, by omega, rfl, rfl, by simp, by rw [List.take_zero, List.map_nil, cut1_nil], Below.refl _ _⟩
    case round =>
      obtain ⟨k, x, y, rfl, hk, hkn, rfl, rfl, hx_, hy_, hb⟩ := hrel
      have hxb := foldl_max 10000 ((P.take k).map v1) (fun z hz => by
        obtain ⟨u, hu, rfl⟩ := List.mem_map.1 hz
        have := H3.out.2.2.2 u (List.mem_of_mem_take hu)
        omega) 0 (by omega) (by omega)
      have hyb := cut1_in ((P.take k).map v2) (fun z hz => by
        obtain ⟨u, hu, rfl⟩ := List.mem_map.1 hz
        have := H3.out.2.2.2 u (List.mem_of_mem_take hu)
        omega)
      rw [← hx_] at hxb
      rw [← hy_] at hyb
      obtain ⟨hx0_, hx1_⟩ := hxb
      obtain ⟨hy0_, hy1_⟩ := hyb
      have hy1_ : y ≤ 1099511627776 := hy1_
      have hb02 : Below w0.heap.size w0 wr := H2.out.2.2.2.1.trans (hb.mono H2.out.2.2.2.1.size)
      have hbt : Below w.heap.size w wr := HW0.out.1.trans (hb02.mono HW0.out.1.size)
      have hx := (hb02.block _ (Array.getElem?_eq_some_iff.1 HW0.out.2).1).trans HW0.out.2
      have y0 : wr.cell? ⟨w.heap.size, 0, none⟩ = some (.slice Am Q cm) := cell_of_row wr _ 0 _ _ (0, 0) hx
      have y1 : wr.cell? ⟨w.heap.size, 1, none⟩ = some (.slice As Q cs) := cell_of_row wr _ 1 _ _ (0, 0) hx
      have HI := Lib.hid (And.intro hkn (And.intro hb (And.intro hb02 (And.intro hbt (And.intro hx_ hy_)))))
      clear hkn hb hb02 hbt hx hx_ hy_
      by_cases hkl : k < q
      · have g1 : decide ((k : Int) < (q : Int)) = true := decide_eq_true (by omega)
        have g2 : decide (k < q) = true := decide_eq_true hkl
        obtain ⟨d, hd⟩ : ∃ d, P[k]? = some d := ⟨_, List.getElem?_eq_getElem (by rw [H2.out.2.2.1]; exact hkl)⟩
        have hdP := List.mem_of_getElem? hd
        have hdG := H3.out.1 d hdP
        have hdv := H3.out.2.2.2 d hdP
        obtain ⟨bq, oq, cap, hv, _, _, hlt, hcel⟩ := H2.out.1.1.2.resolve_left (by rintro ⟨h, _⟩; omega)
        injection hv with e1 e2 e3
        subst e1
        clear e2 e3
        have y2 : wr.cell? ⟨bq, oq + k, none⟩ = some (.int .i64 (d : Nat)) := (HI.out.2.1.cell (p := ⟨bq, oq + k, none⟩) hlt).trans (hcel k _ (nums_get hd))
        have EX : Hid (∀ W, Below wr.heap.size wr W → W.cell? ⟨w.heap.size, 0, none⟩ = some (.slice Am Q cm) ∧ W.cell? ⟨w.heap.size, 1, none⟩ = some (.slice As Q cs) ∧ W.cell? ⟨bq, oq + k, none⟩ = some (.int .i64 (d : Nat))) := Lib.hid fun W hW => ⟨(hW.cell (p := ⟨w.heap.size, 0, none⟩) (by have h1 := HI.out.2.2.1.size; have h2 := (Array.getElem?_eq_some_iff.1 HW0.out.2).1; show w.heap.size < wr.heap.size; omega)).trans y0, (hW.cell (p := ⟨w.heap.size, 1, none⟩) (by have h1 := HI.out.2.2.1.size; have h2 := (Array.getElem?_eq_some_iff.1 HW0.out.2).1; show w.heap.size < wr.heap.size; omega)).trans y1, (hW.cell (p := ⟨bq, oq + k, none⟩) (by have h1 := HI.out.2.1.size; have h2 : bq < w2.heap.size := hlt; show bq < wr.heap.size; omega)).trans y2⟩
        have HK := Lib.hid (And.intro hkl (And.intro hd (And.intro hdG (And.intro (H3.out.2.1 d hdP) (H3.out.2.2.1 d hdP)))))
        have hdb : d ≤ 10000 := by have := H.out.2.2.2.1; omega
        obtain ⟨b1, hb1⟩ : ∃ a, v1 d = a := ⟨_, rfl⟩
        obtain ⟨b2, hb2⟩ : ∃ a, v2 d = a := ⟨_, rfl⟩
        rw [hb1, hb2] at hdv
        obtain ⟨⟨n1, n2⟩, n3, n4⟩ := hdv
        have n4 : b2 ≤ 1099511627776 := n4
        have HB12 := Lib.hid (And.intro hb1 hb2)
        clear hd hdP hdG hlt hcel y0 y1 y2 hb1 hb2
        go_wp2_with fail
        have hS : Below wr.heap.size wr wr.drew := (Below.refl _ _).drew
        refine wp_region_held (S := (fun W => Below wr.heap.size wr W)) (by kernel_rfl) ?_
        change wpAnyH _ _ _ _ _ 11 (List.replicate 11 false).toArray _ wr.drew
        simp only [List.replicate_succ, List.replicate_zero]
        refine any_take (i := 0) (some 22) (.agg #[.slice Am Q cm, .slice As Q cs]) rfl (by rfl) (by kernel_rfl) (by kernel_rfl) (by kernel_rfl) (fun _ _ _ h => h) (Or.inl ⟨by kernel_rfl, (fun W hw => by obtain ⟨n0_, n1_, n2_⟩ := EX.out W hw; clear hw; go_simp)⟩) hS ?_
        simp only [Act.put, List.setIfInBounds_toArray, List.set_cons_zero, List.set_cons_succ]
        refine any_take (i := 1) (some 23) (.slice (some ⟨bq, oq, none⟩) q cP) rfl (by rfl) (by kernel_rfl) (by kernel_rfl) (by kernel_rfl) (fun _ _ _ h => h) (Or.inl ⟨by kernel_rfl, (fun W hw => by clear hw; go_simp)⟩) hS ?_
        simp only [Act.put, List.setIfInBounds_toArray, List.set_cons_zero, List.set_cons_succ]
        refine any_take (i := 2) (some 24) (.int .i64 (k : Nat)) rfl (by rfl) (by kernel_rfl) (by kernel_rfl) (by kernel_rfl) (fun _ _ _ h => h) (Or.inl ⟨by kernel_rfl, (fun W hw => by clear hw; go_simp)⟩) hS ?_
        simp only [Act.put, List.setIfInBounds_toArray, List.set_cons_zero, List.set_cons_succ]
        refine any_take (i := 3) (some 25) (.pointer (some ⟨bq, oq + k, none⟩)) rfl (by rfl) (by kernel_rfl) (by kernel_rfl) (by kernel_rfl) (fun _ _ _ h => h) (Or.inl ⟨by kernel_rfl, (fun W hw => by clear hw; have hkl_ := HK.out.1; go_simp)⟩) hS ?_
        simp only [Act.put, List.setIfInBounds_toArray, List.set_cons_zero, List.set_cons_succ]
        refine any_take (i := 4) (some 26) (.int .i64 (d : Nat)) rfl (by rfl) (by kernel_rfl) (by kernel_rfl) (by kernel_rfl) (fun _ _ _ h => h) (Or.inl ⟨by kernel_rfl, (fun W hw => by obtain ⟨n0_, n1_, n2_⟩ := EX.out W hw; clear hw; go_simp)⟩) hS ?_
        simp only [Act.put, List.setIfInBounds_toArray, List.set_cons_zero, List.set_cons_succ]
        refine wpAnyH_all (rs := [5]) (by kernel_rfl) (by simp) fun q' hq' => ?_
        obtain rfl : q' = 5 := by simpa using hq'
        refine ops_call (d := some 27) rfl (by rfl) (by kernel_rfl) (by go_simp) (((IH.out (cc d) HK.out.2.2.2.1 d _ rfl HK.out.2.2.1 HK.out.2.2.2.2.1 HK.out.2.2.2.2.2 (H.out.1.below (HI.out.2.2.1.trans (hS.mono HI.out.2.2.1.size))))).mono ?_)
        rintro z w3 ⟨rfl, hb3⟩
        rw [HB12.out.1, HB12.out.2]
        have hS3 : Below wr.heap.size wr w3 := hS.trans (hb3.mono hS.size)
        refine ⟨_, rfl, hS3, ?_⟩
        simp only [Act.put, List.setIfInBounds_toArray, List.set_cons_zero, List.set_cons_succ]
        refine any_take (i := 6) (some 21) (.tuple #[.int .i64 b1, .int .i64 b2]) rfl (by rfl) (by kernel_rfl) (by kernel_rfl) (by kernel_rfl) (fun _ _ _ h => h) (Or.inl ⟨by kernel_rfl, (fun W hw => by clear hw; go_simp)⟩) hS3 ?_
        simp only [Act.put, List.setIfInBounds_toArray, List.set_cons_zero, List.set_cons_succ]
        refine any_take (i := 7) (some 28) (.int .i64 b1) rfl (by rfl) (by kernel_rfl) (by kernel_rfl) (by kernel_rfl) (fun _ _ _ h => h) (Or.inl ⟨by kernel_rfl, (fun W hw => by clear hw; go_simp)⟩) hS3 ?_
        simp only [Act.put, List.setIfInBounds_toArray, List.set_cons_zero, List.set_cons_succ]
        refine any_take (i := 8) (some 29) (.int .i64 b2) rfl (by rfl) (by kernel_rfl) (by kernel_rfl) (by kernel_rfl) (fun _ _ _ h => h) (Or.inl ⟨by kernel_rfl, (fun W hw => by clear hw; go_simp)⟩) hS3 ?_
        simp only [Act.put, List.setIfInBounds_toArray, List.set_cons_zero, List.set_cons_succ]
        refine any_take (i := 9) (some 10) (.int .i64 b1) rfl (by rfl) (by kernel_rfl) (by kernel_rfl) (by kernel_rfl) (fun _ _ _ h => h) (Or.inl ⟨by kernel_rfl, (fun W hw => by clear hw; go_simp)⟩) hS3 ?_
        simp only [Act.put, List.setIfInBounds_toArray, List.set_cons_zero, List.set_cons_succ]
        refine any_take (i := 10) (some 11) (.int .i64 b2) rfl (by rfl) (by kernel_rfl) (by kernel_rfl) (by kernel_rfl) (fun _ _ _ h => h) (Or.inl ⟨by kernel_rfl, (fun W hw => by clear hw; go_simp)⟩) hS3 ?_
        simp only [Act.put, List.setIfInBounds_toArray, List.set_cons_zero, List.set_cons_succ]
        refine wpAnyH_done (by kernel_rfl) ?_ _
        obtain ⟨x', hx'⟩ : ∃ z, maxI x b1 = z := ⟨_, rfl⟩
        obtain ⟨y', hy'⟩ : ∃ z, (if y + b2 < mst then y + b2 else mst) = z := ⟨_, rfl⟩
        have hmx : (Builtin.max_ #[3, 3] 3 #[.int .i64 x, .int .i64 b1]).run Tryz.prog w3 = .ok (.int .i64 x') w3 := by rw [← hx']; exact max_run w3 x b1
        have hmn : (Builtin.min_ #[3, 3] 3 #[.int .i64 1099511627776, .int .i64 (y + b2)]).run Tryz.prog w3 = .ok (.int .i64 y') w3 := by rw [← hy']; exact min_run w3 1099511627776 (y + b2)
        have HR := Lib.hid (And.intro hS3 (And.intro hx' hy'))
        clear hS hS3 hb3 EX hx' hy'
        go_wp2_with fail
        go_roundg (q - (k + 1))
        case rel =>
          refine ⟨k + 1, x', y', by go_num, HK.out.1, by omega, rfl, rfl, ?_, ?_, HI.out.2.1.trans (HR.out.1.mono HI.out.2.1.size)⟩
          · rw [List.take_add_one, HK.out.2.1, List.map_append, List.foldl_append, ← HR.out.2.1, HI.out.2.2.2.2.1, ← HB12.out.1]
            rfl
          · rw [List.take_add_one, HK.out.2.1, List.map_append, ← HR.out.2.2, HI.out.2.2.2.2.2, ← HB12.out.2]
            exact (cut1_snoc _ _ (fun z hz => by
              obtain ⟨u, hu, rfl⟩ := List.mem_map.1 hz
              have := H3.out.2.2.2 u (List.mem_of_mem_take hu)
              omega) (by rw [HB12.out.2]; omega)).symm
        case measure => have h1 := HI.out.1; have h2 := HK.out.1; omega
      · have g1 : decide ((k : Int) < (q : Int)) = false := decide_eq_false (by omega)
        have g2 : decide (k < q) = false := decide_eq_false hkl
        have htk : P.take k = P := List.take_of_length_le (by have := H2.out.2.2.1; omega)
        have hxe := HI.out.2.2.2.2.1
        have hye := HI.out.2.2.2.2.2
        rw [htk] at hxe hye
        have e1 : x + 1 = a1 := by rw [H2.out.2.2.2.2.1, hxe]
        have e2 : y = a2 := by rw [H2.out.2.2.2.2.2, hye]
        have HEE := Lib.hid (And.intro e1 e2)
        clear htk hxe hye e1 e2
        go_wp2_with fail
        exact bodyPost_ret (results_tmp2 rfl _ _ _) rfl ⟨by rw [← HEE.out.1, ← HEE.out.2]; rfl, HI.out.2.2.2.1⟩
end CyRs
end Go.Proofs.YtojgiienohpaiaaGreat
namespace Go.Proofs.YtojgiienohpaiaaGreat
open Un (cnt)
def vi : Nat → Nat
  | 0 => 0
  | i + 1 => 2 * i + 1
def grE (j : Nat) : Eqn := ((1, (j : Int), (none, 0, 0), .nil), (4, 0, (none, 0, 0), exP 1 ((j : Int) + 1) 1 ((j : Int) + 1)), (0, 0))
def grF (k : Nat) : Eqn := ((1, (k : Int), (none, 0, 0), .nil), (2, 0, (none, 0, 0), .nil), (0, 0))
def grS (k : Nat) : Sys := cls ((List.range k).map grE)
def grT (k : Nat) : Sys := stp (grS k) (grF k)
structure GrOk (j : Nat) (s : Sys) : Prop where
  zero : j = 0 → s = ([], [])
  len : 0 < j → s.1.length = 2 * j + 1
  var : ∀ i : Nat, 0 < j → i ≤ j → gvar s.1 (i : Int) = some (vi i)
  fresh : ∀ i : Nat, j < i → gvar s.1 (i : Int) = none
  node : ∀ (t : Nat) (p : Gn), s.1[t]? = some p → p.1 = 1 ∨ ∃ i, i < j ∧ t = 2 * i + 2 ∧ p.1 = 4 ∧ p.2.2.2 = [vi (i + 1), vi (i + 1)]
  arr : ∀ i, i < j → ∃ p : Gn, s.1[2 * i + 2]? = some p ∧ p.1 = 4 ∧ p.2.2.2 = [vi (i + 1), vi (i + 1)]
  eq : ∀ a b, (a, b) ∈ s.2 ↔ ∃ i, i < j ∧ a = vi i ∧ b = 2 * i + 2
structure GtOk (k : Nat) (s : Sys) : Prop where
  len : s.1.length = 2 * k + 2
  var0 : gvar s.1 0 = some 0
  node : ∀ (t : Nat) (p : Gn), s.1[t]? = some p → p.1 = 1 ∨ (∃ i, i < k ∧ t = 2 * i + 2 ∧ p.1 = 4 ∧ p.2.2.2 = [vi (i + 1), vi (i + 1)]) ∨ (t = 2 * k + 1 ∧ p.1 = 2 ∧ p.2.2.2 = [])
  arr : ∀ i, i < k → ∃ p : Gn, s.1[2 * i + 2]? = some p ∧ p.1 = 4 ∧ p.2.2.2 = [vi (i + 1), vi (i + 1)]
  int : ∃ p : Gn, s.1[2 * k + 1]? = some p ∧ p.1 = 2 ∧ p.2.2.2 = []
  eq : ∀ a b, (a, b) ∈ s.2 ↔ (∃ i, i < k ∧ a = vi i ∧ b = 2 * i + 2) ∨ (a = vi k ∧ b = 2 * k + 1)
def vk (k t : Nat) : Nat := if t % 2 = 1 then k - (t + 1) / 2 else k - (t / 2 - 1)
section CyTs
variable {k : Nat} {s : Sys}
def chM (f : Int → Int → Int) : Nat → Int
  | 0 => msf f []
  | d + 1 => msf f [chM f d, chM f d]
end CyTs
end Go.Proofs.YtojgiienohpaiaaGreat
namespace Go.Proofs.YtojgiienohpaiaaGreat
open Go.RowKit Go.Shelf
open Un (Else StM rowI UFo own_else dg swp wp_world paint cnt Rings)
set_option maxRecDepth 100000
section CyUs
variable {O : Nat → Prop} {w : World} {cb m : Nat} {G : List Gn} {E : List (Nat × Nat)} {st fs : Int}
theorem depth_cs (h : CsM O w cb G E st fs m) (hfs : 0 ≤ fs ∧ fs ≤ 18000000000) (hG : G.length ≤ 400000) (hgn : GN G) (hgl : GL G) (v : Int) (i : Nat) (hv : gvar G v = some i) :
    Calls Tryz.prog 22 #[.pointer (some ⟨cb, 0, none⟩), .int .i64 v] w (MePost O w cb G E st fs m maxI i) := by
  have HM := Lib.hid (measure_cs h hfs hG hgn hgl both_depth v i hv)
  clear h hfs hG hgn hgl hv
  go_enter Tryz.func22, Tryz.ntmps22
  go_wp2_with fail
  refine HM.out.mono ?_
  rintro x w2 ⟨ok, q, k, rfl, hr⟩
  have H2 := Lib.hid hr
  clear hr
  go_wp2_with fail
  exact bodyPost_ret (results_tmp2 rfl _ _ _) rfl ⟨ok, q, k, rfl, H2.out⟩
theorem size_cs (h : CsM O w cb G E st fs m) (hfs : 0 ≤ fs ∧ fs ≤ 18000000000) (hG : G.length ≤ 400000) (hgn : GN G) (hgl : GL G) (v : Int) (i : Nat) (hv : gvar G v = some i) :
    Calls Tryz.prog 23 #[.pointer (some ⟨cb, 0, none⟩), .int .i64 v] w (MePost O w cb G E st fs m (fun a b => a + b) i) := by
  have HM := Lib.hid (measure_cs h hfs hG hgn hgl both_size v i hv)
  clear h hfs hG hgn hgl hv
  go_enter Tryz.func23, Tryz.ntmps23
  go_wp2_with fail
  refine HM.out.mono ?_
  rintro x w2 ⟨ok, q, k, rfl, hr⟩
  have H2 := Lib.hid hr
  clear hr
  go_wp2_with fail
  exact bodyPost_ret (results_tmp2 rfl _ _ _) rfl ⟨ok, q, k, rfl, H2.out⟩
end CyUs
end Go.Proofs.YtojgiienohpaiaaGreat
namespace Go.Proofs.YtojgiienohpaiaaGreat
open Go.RowKit
open Un (rowI rowI_get Else own_else wp_world)
attribute [local go_sem] Oper.semAt_some
set_option maxRecDepth 100000
section CyXs
variable {D : Nat → Prop} {B : Nat} {w w' : World} {vm vs : Value} {M : List Rm} {G : List Gn} {cc : Nat → Nat} {i : Nat} {col ro : Nat → Nat} {kn : Kn} {E : List (Nat × Nat)}
theorem in_any (w : World) (v : Value) (C : List Nat) (n : Nat) (h : Rd w 1 v C.length (nums C)) (hl : C.length ≤ 1000000) :
    Calls Tryz.prog 18 #[v, .int .i64 (n : Nat)] w fun x w' => (∃ b : Bool, x = .returned (.bool b) ∧ (b = true ↔ n ∈ C)) ∧ Below w.heap.size w w' := by
  obtain ⟨A, c, rfl⟩ := h.form
  obtain ⟨q, hq⟩ : ∃ q, C.length = q := ⟨_, rfl⟩
  rw [hq] at h hl ⊢
  have H := Lib.hid (And.intro h hq)
  clear h hq
  go_enter Tryz.func18, Tryz.ntmps18
  go_wp2_with fail
  go_loopg [5] q (fun nn s wr => ∃ k : Nat, s = .int .i64 (k : Nat) ∧ k ≤ q ∧ q ≤ k + nn ∧ n ∉ C.take k ∧ Below w.heap.size w wr)
  case atStart => exact ⟨0, rfl, Nat.zero_le _, by omega, by simp, Below.refl _ _⟩
  case round =>
    obtain ⟨k, rfl, hk, hkn, hno, hb⟩ := hrel
    have HI := Lib.hid (And.intro hkn (And.intro hno hb))
    clear hkn hno hb
    by_cases hkl : k < q
    · have g1 : decide ((k : Int) < (q : Int)) = true := decide_eq_true (by omega)
      have g2 : decide (k < q) = true := decide_eq_true hkl
      obtain ⟨d, hd⟩ : ∃ d, C[k]? = some d := ⟨_, List.getElem?_eq_getElem (by rw [H.out.2]; exact hkl)⟩
      obtain ⟨b, off, cap, hv, hnc, _, hlt, hc⟩ := H.out.1.2.resolve_left (by rintro ⟨h, _⟩; omega)
      injection hv with e1 e2 e3
      subst e1
      clear e2 e3
      have y0 : wr.cell? ⟨b, off + k, none⟩ = some (.int .i64 (d : Nat)) := (HI.out.2.2.cell (p := ⟨b, off + k, none⟩) hlt).trans (hc k _ (nums_get hd))
      have HK := Lib.hid (And.intro hd hkl)
      clear hd hc hlt
      by_cases hdn : d = n
      · have g3 : ((d : Int) == (n : Int)) = true := by rw [hdn]; simp
        have g4 : (d == n) = true := by rw [hdn]; simp
        have HDN := Lib.hid hdn
        clear hdn
        go_wp2_with fail
        try (go_quiet (fail); go_wp2_with fail)
        go_ret
        exact ⟨⟨true, rfl, ⟨(fun _ => by rw [← HDN.out]; exact List.mem_of_getElem? HK.out.1), (fun _ => rfl)⟩⟩, by first | exact HI.out.2.2 | exact below_drewN HI.out.2.2 _⟩
      · have g3 : ((d : Int) == (n : Int)) = false := by simp; omega
        have g4 : (d == n) = false := by simpa using hdn
        have HDN := Lib.hid hdn
        clear hdn
        go_wp2_with fail
        try (go_quiet (fail); go_wp2_with fail)
        go_roundg (q - (k + 1))
        case rel => exact ⟨k + 1, by go_num, HK.out.2, by omega, by rw [List.take_add_one, HK.out.1]; simp only [Option.toList_some, List.mem_append, List.mem_singleton]; exact fun h => h.elim HI.out.2.1 fun h => HDN.out h.symm, by first | exact HI.out.2.2 | exact below_drewN HI.out.2.2 _⟩
        case measure => have h1 := HI.out.1; have h2 := HK.out.2; omega
    · have g1 : decide ((k : Int) < (q : Int)) = false := decide_eq_false (by omega)
      have g2 : decide (k < q) = false := decide_eq_false hkl
      have hke : C.take k = C := List.take_of_length_le (by have := H.out.2; omega)
      have HKE := Lib.hid hke
      clear hke
      go_wp2_with fail
      go_ret
      exact ⟨⟨false, rfl, ⟨(fun h => by cases h), (fun h => absurd h (by have := HI.out.2.1; rw [HKE.out] at this; exact this))⟩⟩, HI.out.2.2⟩
set_option maxHeartbeats 4000000 in
theorem loop_any (hB : Both G col ro kn E cc) (hg : Gp G) (h : An3 D B w vm vs M G cc) (hl : G.length ≤ 10000) (hi : i < G.length) :
    Calls Tryz.prog 16 #[.agg #[vm, vs], .int .i64 (i : Nat)] w fun x w' => (∃ b : Bool, x = .returned (.bool b) ∧ (b = true ↔ Cp G cc (cc i) (cc i))) ∧ Below w.heap.size w w' := by
  have hlen := h.len
  obtain ⟨Am, cm, rfl⟩ := h.row.form
  obtain ⟨As, cs, rfl, _, _⟩ := Un.own_form h.col
  obtain ⟨Q, hQ⟩ : ∃ Q, M.length = Q := ⟨_, rfl⟩
  rw [hQ] at h hlen ⊢
  obtain ⟨w0, hw0⟩ : ∃ w0, w.alloc (.cells #[.slice Am Q cm, .slice As Q cs] 33) = w0 := ⟨_, rfl⟩
  have hb0 : Below w.heap.size w w0 := by rw [← hw0]; exact (Below.refl _ _).alloc (Nat.le_refl _) _
  have hx0 : w0.heap[w.heap.size]? = some (.cells #[.slice Am Q cm, .slice As Q cs] 33) := by rw [← hw0]; exact heap_alloc_new _ _
  have HCM := Lib.hid (comes_any hB hg (h.below hb0) hl hi)
  have x0 : w0.cell? ⟨w.heap.size, 0, none⟩ = some (.slice Am Q cm) := cell_of_row w0 _ 0 _ _ (0, 0) hx0
  have x1 : w0.cell? ⟨w.heap.size, 1, none⟩ = some (.slice As Q cs) := cell_of_row w0 _ 1 _ _ (0, 0) hx0
  have hcol : w0.ownsRow B 3 1 (.slice As Q cs) Q (rowI Q cc) := by have h1 := (h.below hb0).col; rw [hQ] at h1; exact h1
  have hiQ : i < Q := by omega
  have H := Lib.hid (And.intro hb0 (And.intro hx0 hcol))
  have HW0 := Lib.hid hw0
  clear h hb0 hx0 hlen hw0 hB hg hQ hcol hi
  go_enter Tryz.func16, Tryz.ntmps16
  go_upto_region 1 with fail
  rw [HW0.out]
  go_wp2_with fail
  refine HCM.out.mono ?_
  clear HCM
  rintro x w1 ⟨v1, C, rfl, ho1, hC, hCl, hb1⟩
  obtain ⟨A1, c1, rfl, _, _⟩ := Un.own_form ho1
  obtain ⟨q, hq⟩ : ∃ q, C.length = q := ⟨_, rfl⟩
  rw [hq] at ho1 hCl ⊢
  obtain ⟨bs, cs_, hsh, _, hbsl⟩ := Un.own_shape H.out.2.2 (by omega)
  injection hsh with hA1 hA2 hcc1
  subst hA1
  clear hA2 hcc1
  have FX : Hid (∀ W, Below w1.heap.size w1 W → W.cell? ⟨bs, i, none⟩ = some (.int .i64 (cc i : Nat)) ∧ W.cell? ⟨w.heap.size, 1, none⟩ = some (.slice (some ⟨bs, 0, none⟩) Q cs)) := Lib.hid fun W hW => by
    have hb := hb1.trans (hW.mono hb1.size)
    have hx := (hb.block _ (Array.getElem?_eq_some_iff.1 H.out.2.1).1).trans H.out.2.1
    exact ⟨(hb.cell (p := ⟨bs, i, none⟩) hbsl).trans ((H.out.2.2.cellAt i (by omega)).trans (rowI_get hiQ)), cell_of_row W _ 1 _ _ (0, 0) hx⟩
  have H1 := Lib.hid (And.intro ho1 (And.intro hC (And.intro hb1 hq)))
  clear ho1 hC hb1 hq hbsl x0 x1
  go_wp2_with fail
  go_loopg [6] q (fun nn s wr => ∃ k : Nat, s = .int .i64 (k : Nat) ∧ k ≤ q ∧ q ≤ k + nn ∧ cc i ∉ C.take k ∧ Below w1.heap.size w1 wr)
  case atStart => exact ⟨0, rfl, Nat.zero_le _, by omega, by simp, Below.refl _ _⟩
  case round =>
    obtain ⟨k, rfl, hk, hkn, hno, hb⟩ := hrel
    obtain ⟨y1, y2⟩ := FX.out wr hb
    have HI := Lib.hid (And.intro hkn (And.intro hno hb))
    have hbt : Below w.heap.size w wr := H.out.1.trans ((H1.out.2.2.1.trans (hb.mono H1.out.2.2.1.size)).mono H.out.1.size)
    have HBT := Lib.hid hbt
    clear hkn hno hb hbt
    by_cases hkl : k < q
    · have g1 : decide ((k : Int) < (q : Int)) = true := decide_eq_true (by omega)
      have g2 : decide (k < q) = true := decide_eq_true hkl
      obtain ⟨d, hd⟩ : ∃ d, C[k]? = some d := ⟨_, List.getElem?_eq_getElem (by rw [H1.out.2.2.2]; exact hkl)⟩
      obtain ⟨bo, co_, hsh2, _, hbo⟩ := Un.own_shape H1.out.1 (by omega)
      injection hsh2 with e1 e2 e3
      subst e1
      clear e2 e3
      have y0 : wr.cell? ⟨bo, k, none⟩ = some (.int .i64 (d : Nat)) := (HI.out.2.2.cell (p := ⟨bo, k, none⟩) hbo).trans ((H1.out.1.cellAt k (by rw [Nat.mul_one]; exact hkl)).trans (nums_get hd))
      have HK := Lib.hid (And.intro hd hkl)
      clear hd hbo
      by_cases hdn : d = cc i
      · have g3 : ((d : Int) == (cc i : Int)) = true := by rw [hdn]; simp
        have g4 : (d == cc i) = true := by rw [hdn]; simp
        have HDN := Lib.hid hdn
        clear hdn
        go_wp2_with fail
        go_quiet (fail)
        go_wp2_with fail
        go_ret
        exact ⟨⟨true, rfl, ⟨(fun _ => (H1.out.2.1 _).1 (by rw [← HDN.out]; exact List.mem_of_getElem? HK.out.1)), (fun _ => rfl)⟩⟩, below_drewN HBT.out _⟩
      · have g3 : ((d : Int) == (cc i : Int)) = false := by simp; omega
        have g4 : (d == cc i) = false := by simpa using hdn
        have HDN := Lib.hid hdn
        clear hdn
        go_wp2_with fail
        go_quiet (fail)
        go_wp2_with fail
        go_roundg (q - (k + 1))
        case rel => exact ⟨k + 1, by go_num, HK.out.2, by omega, by rw [List.take_add_one, HK.out.1]; simp only [Option.toList_some, List.mem_append, List.mem_singleton]; exact fun h => h.elim HI.out.2.1 fun h => HDN.out h.symm, below_drewN HI.out.2.2 _⟩
        case measure => have h1 := HI.out.1; have h2 := HK.out.2; omega
    · have g1 : decide ((k : Int) < (q : Int)) = false := decide_eq_false (by omega)
      have g2 : decide (k < q) = false := decide_eq_false hkl
      have hke : C.take k = C := List.take_of_length_le (by have := H1.out.2.2.2; omega)
      have HKE := Lib.hid hke
      clear hke
      go_wp2_with fail
      go_ret
      exact ⟨⟨false, rfl, ⟨(fun h => by cases h), (fun h => absurd ((H1.out.2.1 _).2 h) (by have := HI.out.2.1; rw [HKE.out] at this; exact this))⟩⟩, HBT.out⟩
set_option maxHeartbeats 4000000 in
theorem finite3_any (hB : Both G col ro kn E cc) (hg : Gp G) (h : An3 D B w vm vs M G cc) (hl : G.length ≤ 10000) :
    Calls Tryz.prog 20 #[.agg #[vm, vs]] w fun x w' => (∃ b : Bool, x = .returned (.bool b) ∧ (b = true ↔ ∀ i, i < G.length → ¬ Cp G cc (cc i) (cc i))) ∧ Below w.heap.size w w' := by
  have hlen := h.len
  obtain ⟨Am, cm, rfl⟩ := h.row.form
  obtain ⟨As, cs, rfl, _, _⟩ := Un.own_form h.col
  obtain ⟨Q, hQ⟩ : ∃ Q, M.length = Q := ⟨_, rfl⟩
  rw [hQ] at h hlen ⊢
  obtain ⟨w0, hw0⟩ : ∃ w0, w.alloc (.cells #[.slice Am Q cm, .slice As Q cs] 33) = w0 := ⟨_, rfl⟩
  have hb0 : Below w.heap.size w w0 := by rw [← hw0]; exact (Below.refl _ _).alloc (Nat.le_refl _) _
  have hx0 : w0.heap[w.heap.size]? = some (.cells #[.slice Am Q cm, .slice As Q cs] 33) := by rw [← hw0]; exact heap_alloc_new _ _
  have hQ5 : Q ≤ 10000 := by omega
  have H := Lib.hid (And.intro hb0 (And.intro hx0 (And.intro (h.below hb0) (And.intro hlen (And.intro hl (And.intro hB hg))))))
  have HW0 := Lib.hid hw0
  clear h hb0 hx0 hlen hw0 hl hB hg hQ
  go_enter Tryz.func20, Tryz.ntmps20
  go_upto_region 1 with fail
  rw [HW0.out]
  go_wp2_with fail
  go_loopg [3] Q (fun nn s wr => ∃ k : Nat, s = .int .i64 (k : Nat) ∧ k ≤ Q ∧ Q ≤ k + nn ∧ (∀ i, i < k → ¬ Cp G cc (cc i) (cc i)) ∧ Below w0.heap.size w0 wr)
  case atStart => exact ⟨0, rfl, Nat.zero_le _, by omega, fun i hi => by omega, Below.refl _ _⟩
  case round =>
    obtain ⟨k, rfl, hk, hkn, hno, hb⟩ := hrel
    have hx := (hb.block _ (Array.getElem?_eq_some_iff.1 H.out.2.1).1).trans H.out.2.1
    have y0 : wr.cell? ⟨w.heap.size, 0, none⟩ = some (.slice Am Q cm) := cell_of_row wr _ 0 _ _ (0, 0) hx
    have y1 : wr.cell? ⟨w.heap.size, 1, none⟩ = some (.slice As Q cs) := cell_of_row wr _ 1 _ _ (0, 0) hx
    have HI := Lib.hid (And.intro hkn (And.intro hno hb))
    have hbt : Below w.heap.size w wr := H.out.1.trans (hb.mono H.out.1.size)
    have HBT := Lib.hid hbt
    clear hkn hno hb hbt hx
    by_cases hkl : k < Q
    · have g1 : decide ((k : Int) < (Q : Int)) = true := decide_eq_true (by omega)
      have g2 : decide (k < Q) = true := decide_eq_true hkl
      have HLP := Lib.hid (loop_any H.out.2.2.2.2.2.1 H.out.2.2.2.2.2.2 (H.out.2.2.1.below HI.out.2.2) H.out.2.2.2.2.1 (i := k) (by have := H.out.2.2.2.1; omega))
      have HK := Lib.hid hkl
      go_wp2_with fail
      refine HLP.out.mono ?_
      clear HLP
      rintro x w2 ⟨⟨b, rfl, hb⟩, hb2⟩
      have H2 := Lib.hid (And.intro hb hb2)
      clear hb hb2
      cases b with
      | true =>
        go_wp2_with fail
        go_ret
        exact ⟨⟨false, rfl, ⟨(fun h => by cases h), (fun h => absurd (H2.out.1.1 (by trivial)) (h k (by have := H.out.2.2.2.1; have := HK.out; omega)))⟩⟩, HBT.out.trans (H2.out.2.mono HBT.out.size)⟩
      | false =>
        go_wp2_with fail
        go_roundg (Q - (k + 1))
        case rel => exact ⟨k + 1, by go_num, HK.out, by omega, (fun i hi => by
          rcases Nat.lt_or_ge i k with h1 | h1
          · exact HI.out.2.1 i h1
          · obtain rfl : i = k := by omega
            exact fun h => by have := H2.out.1.2 h; cases this), HI.out.2.2.trans (H2.out.2.mono HI.out.2.2.size)⟩
        case measure => have h1 := HI.out.1; have h2 := HK.out; omega
    · have g1 : decide ((k : Int) < (Q : Int)) = false := decide_eq_false (by omega)
      have g2 : decide (k < Q) = false := decide_eq_false hkl
      have hke : k = G.length := by have := H.out.2.2.2.1; omega
      have HKE := Lib.hid hke
      clear hke
      go_wp2_with fail
      go_ret
      exact ⟨⟨true, rfl, ⟨(fun _ i hi => HI.out.2.1 i (by rw [HKE.out]; exact hi)), (fun _ => rfl)⟩⟩, HBT.out⟩
end CyXs
end Go.Proofs.YtojgiienohpaiaaGreat
namespace Go.Proofs.YtojgiienohpaiaaGreat
open Go.RowKit
open Un (rowI rowI_get Else own_else wp_world)
attribute [local go_sem] Oper.semAt_some
set_option maxRecDepth 100000
section CyYs
variable {D : Nat → Prop} {B : Nat} {w w' : World} {vm vs : Value} {M : List Rm} {G : List Gn} {cc : Nat → Nat} {i : Nat} {col ro : Nat → Nat} {kn : Kn} {E : List (Nat × Nat)}
theorem An3.of_rg {BT : Nat} (h : Rg D BT w vm M G) (hs : w.ownsRow B 3 1 vs G.length (rowI G.length cc)) : An3 D B w vm vs M G cc :=
  ⟨h.1.row, fun x hx => (h.1.nodes x hx).2, by rw [h.len]; exact hs, h.rows, h.2.1⟩
theorem clash3 (h : An3 D B w vm vs M G cc) (hl : G.length ≤ 10000) (hc : Rc G cc E) (he : ∀ a b, (a, b) ∈ E → a < G.length ∧ b < G.length ∧ cc a = cc b) (hd : ClosedC G cc) :
    Calls Tryz.prog 11 #[.agg #[vm, vs]] w fun e w' => (∃ b : Bool, e = .returned (.bool b) ∧ (b = true ↔ Clash G E)) ∧ Below w.heap.size w w' := by
  have hlen := h.len
  rcases Nat.eq_zero_or_pos G.length with h0 | h0
  · obtain ⟨Am, cm, rfl⟩ := h.row.form
    obtain ⟨As, cs, rfl, _, _⟩ := Un.own_form h.col
    have hno : ¬ Clash G E := fun ⟨x, y, p, q, h1, h2, _⟩ => by have := lt_of_get h2; omega
    have hM0 : M.length = 0 := by omega
    rw [hM0]
    obtain ⟨w0, hw0⟩ : ∃ w0, w.alloc (.cells #[.slice Am 0 cm, .slice As 0 cs] 33) = w0 := ⟨_, rfl⟩
    have hb0 : Below w.heap.size w w0 := by rw [← hw0]; exact (Below.refl _ _).alloc (Nat.le_refl _) _
    have hx0 : w0.heap[w.heap.size]? = some (.cells #[.slice Am 0 cm, .slice As 0 cs] 33) := by rw [← hw0]; exact heap_alloc_new _ _
    have x0 : w0.cell? ⟨w.heap.size, 0, none⟩ = some (.slice Am 0 cm) := cell_of_row w0 _ 0 _ _ (0, 0) hx0
    have H := Lib.hid (And.intro hb0 hno)
    have HW0 := Lib.hid hw0
    clear h hc he hd hlen h0 hl hb0 hx0 hno hM0 hw0
    go_enter Tryz.func11, Tryz.ntmps11
    go_upto_region 1 with fail
    rw [HW0.out]
    go_wp2_with fail
    refine wp_loop_rounds 1 ?_
    rw [rounds_succ]
    go_wp2_with fail
    go_ret
    exact ⟨⟨false, rfl, ⟨(fun h => by cases h), (fun h => absurd h H.out.2)⟩⟩, H.out.1⟩
  · refine (rclash_any w M vm vs cc B h.row.1 h.lens h.col (by omega) (by omega)).mono ?_
    rintro e w' ⟨b, rfl, hb, hw⟩
    refine ⟨⟨b, rfl, hb.trans ?_⟩, hw⟩
    rw [hc.clash he hd, h.gm]
    constructor
    · rintro ⟨x, y, hyx, p, q, h1, h2, h3⟩
      exact ⟨x, y, p, q, h1, h2, hyx, h3⟩
    · rintro ⟨x, y, p, q, h1, h2, hyx, h3⟩
      exact ⟨x, y, hyx, p, q, h1, h2, h3⟩
variable {O : Nat → Prop} {cb b : Nat} {s : Sys}
end CyYs
end Go.Proofs.YtojgiienohpaiaaGreat
namespace Go.Proofs.YtojgiienohpaiaaGreat
def RepL (H : List Gn) : Fo → List Nat → Prop
  | .nil, P => P = []
  | .cons k n _ ps r, P => ∃ j P', P = j :: P' ∧ (∃ s Q, H[j]? = some (k, n, s, Q) ∧ RepL H ps Q) ∧ RepL H r P'
def GV (G : List Gn) : Prop := ∀ p ∈ G, p.1 = 1 → p.2.2.2 = []
structure Gok (G : List Gn) : Prop where
  gi : GI G
  gp : Gp G
  gn : GN G
  gv : GV G
structure Fok (F : Fo) : Prop where
  vok : Vok F
  alp : AlP F
  wf : F.wf
def Hm (G H : List Gn) (φ : Nat → Nat) : Prop := ∀ (i : Nat) (p : Gn), G[i]? = some p → ∃ s, H[φ i]? = some (p.1, p.2.1, s, p.2.2.2.map φ)
def one1 (t : Ty1) : Fo := .cons t.1 t.2.1 t.2.2.1 t.2.2.2 .nil
def HoldsIn (t : Sys) (x : Eqn) : Prop := ∃ a b, RepL t.1 (one1 x.1) [a] ∧ RepL t.1 (one1 x.2.1) [b] ∧ Cl t.1 t.2 a b
def Eok (x : Eqn) : Prop := Fok (one1 x.1) ∧ Fok (one1 x.2.1)
def flipE (x : Eqn) : Eqn := (x.2.1, x.1, x.2.2)
structure Sim (s t : Sys) : Prop where
  clash : Clash s.1 s.2 → Clash t.1 t.2
  var : ∀ a, a ∈ names s.1 → a ∈ names t.1
  same : ∀ a b, SameIs s.1 s.2 a b → SameIs t.1 t.2 a b
  kind : ¬ Clash t.1 t.2 → ∀ v r r', KindIs s.1 s.2 v r → KindIs t.1 t.2 v r' → r ≠ 0 → r' = r
end Go.Proofs.YtojgiienohpaiaaGreat
namespace Go.Proofs.YtojgiienohpaiaaGreat
open Go.RowKit
open Un (Else dg cnt own_else)
set_option maxRecDepth 100000
section UzKs
variable {O : Nat → Prop} {w : World} {cb : Nat} {s : Sys} {f : Int}
end UzKs
end Go.Proofs.YtojgiienohpaiaaGreat
namespace Go.Proofs.YtojgiienohpaiaaGreat
open Go.RowKit
set_option maxRecDepth 100000
section UzUs
variable {w w' : World} {cb : Nat} {st : Int}
theorem CxM.lt (h : CxM w cb st) : cb < w.heap.size := (Array.getElem?_eq_some_iff.1 h).1
theorem CxM.below (h : CxM w cb st) (hb : Below w.heap.size w w') : CxM w' cb st := (hb.block cb h.lt).trans h
theorem node_cx (h : CxM w cb st) (v : Int) : Calls Tryz.prog 59 #[.pointer (some ⟨cb, 0, none⟩), .int .i64 v] w fun e w' => e = .returned (.tuple #[.int .i64 0, .bool false]) ∧ Below w.heap.size w w' := by
  have c2 : w.cell? ⟨cb, 2, none⟩ = some (.pointer none) := cell_of_row w cb 2 _ _ (0, 0) h
  have hl := h.lt
  clear h
  go_enter Tryz.func59, Tryz.ntmps59
  go_wp2_with fail
  refine (var_none _ v).mono ?_
  rintro e w' ⟨rfl, hb⟩
  have HB := Lib.hid hb
  clear hb
  go_wp2_with fail
  exact bodyPost_ret (results_tmp2 rfl _ _ _) rfl ⟨rfl, HB.out⟩
theorem cpart_cx (h : CxM w cb st) (v : Int) : Calls Tryz.prog 42 #[.pointer (some ⟨cb, 0, none⟩), .int .i64 v] w fun e w' => e = .returned (.tuple #[ptV none 0, .bool false]) ∧ Below w.heap.size w w' := by
  have hb0 : Below w.heap.size w (w.alloc (.cells #[.pointer none, .int .i64 0] 78)) := (Below.refl _ _).alloc (Nat.le_refl _) _
  have hx := heap_alloc_new w (.cells #[.pointer none, .int .i64 0] 78)
  have HN := Lib.hid (node_cx (h.below hb0) v)
  have HX := Lib.hid (And.intro hb0 hx)
  clear h hb0 hx
  go_enter Tryz.func42, Tryz.ntmps42
  go_wp2_with fail
  refine HN.out.mono ?_
  rintro e w' ⟨rfl, hb⟩
  have hx2 := (hb.block w.heap.size (by simp)).trans HX.out.2
  have hxl := (Array.getElem?_eq_some_iff.1 hx2).1
  have d0 : w'.cell? ⟨w.heap.size, 0, none⟩ = some (.pointer none) := cell_of_row w' _ 0 _ _ (0, 0) hx2
  have d1 : w'.cell? ⟨w.heap.size, 1, none⟩ = some (.int .i64 0) := cell_of_row w' _ 1 _ _ (0, 0) hx2
  have z0 : w'.frozen? ⟨w.heap.size, 0, none⟩ = false := by simp [World.frozen?, hx2]
  have z1 : w'.frozen? ⟨w.heap.size, 1, none⟩ = false := by simp [World.frozen?, hx2]
  have HB := Lib.hid (And.intro hb hx2)
  clear hb HN hx2
  go_wp2_with fail
  have hx4 := heap_setCell_same _ w.heap.size 1 _ _ (.int .i64 0) (heap_setCell_same w' w.heap.size 0 _ _ (.pointer none) HB.out.2)
  refine bodyPost_ret (results_cell_tmp rfl _ _ w.heap.size (ptV none 0) rfl (load_pt (c := none) (cell_of_row _ _ 0 _ _ (0, 0) hx4) (cell_of_row _ _ 1 _ _ (0, 0) hx4))) rfl ⟨rfl, ?_⟩
  exact ((HX.out.1.trans (HB.out.1.mono HX.out.1.size)).setCell (Nat.le_refl _) _).setCell (Nat.le_refl _) _
end UzUs
end Go.Proofs.YtojgiienohpaiaaGreat
