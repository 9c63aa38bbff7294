/- Texts of one proof, one behind the other. -/
import Derived.Test.YtbdckmnppeglfaaMgGraphKeeps33
import Derived.Deep.RegionHeld3
/- GraphTypes, walked. -/
namespace Go.Proofs.Ytbdckmnppeglfaa
open Go.RowKit Go.Shelf
set_option maxRecDepth 100000
/-- What is told of a node's type, held against the document's. -/
theorem told_same {y : Rn} {F : Fo} (h : F.pure = y.2.2.2.1.pure) : (y.1 == y.1 && y.2.1 == y.2.1 && F.same y.2.2.2.1) = true := by
  simp [(Fo.same_iff _ _).2 h]
theorem told_none : ((0 : Int) == 0 && (0 : Int) == 0 && Fo.nil.same Fo.nil) = true := rfl
set_option maxHeartbeats 8000000 in
theorem gtypes_law (w : World) (F : Fo) (v : Value) (i most : Int) (hF : TyV w.heap.size w F v) (hwf : F.wf) :
    Calls Try.prog 4 #[v, .int .i64 i, .int .i64 most] w fun e w' => e = .returned (.bool true) ∧ Below w.heap.size w w' := by
  have HGT := Lib.hid (great11_any w F v hF)
  have HF := Lib.hid hF
  have HWF := Lib.hid hwf
  obtain ⟨Av, cv, rfl⟩ := hF.slice
  clear hF hwf
  go_enter Try.func4, Try.ntmps4
  go_wp2_with fail
  refine HGT.out.mono ?_
  rintro e w2 ⟨gb, rfl, hgb, hb2⟩
  have HB2 := Lib.hid hb2
  have HGB := Lib.hid hgb
  clear hb2 hgb
  cases gb
  rotate_left
  · go_wp2_with fail
    refine (awake11 w2).mono ?_
    rintro e w3 ⟨rfl, hb3⟩
    go_wp2_with fail
    go_ret
    exact ⟨rfl, HB2.out.trans (hb3.mono HB2.out.size)⟩
  · have hlen := HGB.out rfl
    have hboth := both_any w2 w.heap.size HB2.out.size F (.slice Av F.len cv) (HF.out.below HB2.out) HWF.out (by omega)
    have HBO := Lib.hid hboth
    have hlo := (TyV.list HF.out).lenOk
    have hok := bAll_ok F ([], []) (BOk.nil []) hlo
    have hsz := bAll_sizes F ([], [])
    have hbl := (bAll_len F ([], [])).1
    generalize bAll ([], []) F = S at *
    obtain ⟨R, A⟩ := S
    dsimp only [List.length_nil] at hok hsz hbl HBO
    have hsz2 : ∀ x ∈ R, 1 + x.2.2.2.1.size ≤ 400 := fun x hx => by
      rcases hsz x hx with h | h
      · cases h
      · omega
    have HSZ := Lib.hid hsz2
    have HOK := Lib.hid hok
    have hRl : R.length ≤ 400 := by omega
    clear hboth hlo hok hsz hsz2 hbl HGT
    go_wp2_with fail
    refine HBO.out.mono ?_
    rintro e w3 ⟨g, mb, vg, vm, va, L, M, rfl, hI, hGI⟩
    have hml : M.length = R.length := by rw [← hI.eqR]; simp [M1]
    obtain ⟨Am, cm, rfl⟩ := hI.model.row.1.form
    obtain ⟨Aa, ca, rfl, -, -⟩ := own_form hI.row
    have HI := Lib.hid hI
    have HML := Lib.hid hml
    obtain ⟨lm, hlm⟩ : ∃ lm, M.length = lm := ⟨_, rfl⟩
    have HLM := Lib.hid hlm
    rw [hlm]
    have hlm4 : lm ≤ 400 := by omega
    clear hI hGI hml hlm
    go_wp2_with fail
    go_loopw [11] (fun t wr => ∃ k : Nat, k ≤ lm ∧ t = .int .i64 k ∧ Below w3.heap.size w3 wr) (fun t _ => lm - (intOf t).toNat)
    case atStart => exact ⟨0, Nat.zero_le _, rfl, Below.refl _ _⟩
    case round =>
      obtain ⟨k, hk, rfl, hb⟩ := hrel
      have HB := Lib.hid hb
      have hz := hb.size
      clear hb
      by_cases hkl : k < lm
      · have hkR : k < R.length := by have := HML.out; have := HLM.out; omega
        obtain ⟨y, hy⟩ : ∃ y, R[k]? = some y := ⟨_, List.getElem?_eq_getElem hkR⟩
        have hy4 := HSZ.out y (List.mem_of_getElem? hy)
        have hIr := HI.out.keep HB2.out.size HB.out
        have hty := type_in wr w2.heap.size g mb vg L R hIr.graph HOK.out.ri k y hy (by omega) 400
        have HTY := Lib.hid hty
        have HIR := Lib.hid hIr
        have HY := Lib.hid hy
        have hy9 : (1 + (y.2.2.2.1.size : Int)) ≤ 400 := by omega
        clear hty hIr hy
        go_wp2_with fail
        refine HTY.out.mono ?_
        rintro e w4 ⟨hb4, h4⟩
        rw [if_pos hy9] at h4
        obtain ⟨⟨u1, u2, u3⟩, F4, rfl, hF4, hT4⟩ := h4
        obtain ⟨w5, hw5⟩ : ∃ w5, w4.alloc (.cells #[.int .i64 y.1, .int .i64 y.2.1, .slice u1 u2 u3] 38) = w5 := ⟨_, rfl⟩
        have hb5 : Below w4.heap.size w4 w5 := by rw [← hw5]; exact (Below.refl _ _).alloc (Nat.le_refl _) _
        have hx5 : w5.heap[w4.heap.size]? = some (Obj.cells #[.int .i64 y.1, .int .i64 y.2.1, .slice u1 u2 u3] 38) := by rw [← hw5]; exact heap_alloc_new w4 _
        have hr5 := hb4.trans (hb5.mono hb4.size)
        have hI5 := HIR.out.keep HB2.out.size hr5
        obtain ⟨bm, om, hAm, hbm, c0, c1, c2, hTm⟩ := hI5.model.cells HI.out.eqR k y HY.out
        subst hAm
        have hlt5 : w4.heap.size < w5.heap.size := (Array.getElem?_eq_some_iff.1 hx5).1
        have d0 : w5.cell? ⟨w4.heap.size, 0, none⟩ = some (.int .i64 y.1) := cell_of_row w5 _ 0 _ _ (0, 0) hx5
        have d1 : w5.cell? ⟨w4.heap.size, 1, none⟩ = some (.int .i64 y.2.1) := cell_of_row w5 _ 1 _ _ (0, 0) hx5
        have d2 : w5.cell? ⟨w4.heap.size, 2, none⟩ = some (.slice u1 u2 u3) := cell_of_row w5 _ 2 _ _ (0, 0) hx5
        have hF4s : F4.size = y.2.2.2.1.size := by rw [← Fo.pure_size, hF4, Fo.pure_size]
        have hT5 : TyV w5.heap.size w5 F4 (slv (u1, u2, u3)) := (hT4.below hb5).keep hb5.size fun _ _ _ => rfl
        have hTm5 : TyV w5.heap.size w5 y.2.2.2.1 (slv y.2.2.1) := hTm.keep (Nat.le_trans HB2.out.size (by have := HI.out.below.size; have := hb4.size; omega)) fun _ _ _ => rfl
        have hsm : ∀ W, Below w5.heap.size w5 W → Calls Try.prog 23 #[tyVal y.1 y.2.1 (slv (u1, u2, u3)), tyVal y.1 y.2.1 (slv y.2.2.1)] W fun e w' => e = .returned (.bool true) ∧ Below w5.heap.size w5 w' := fun W hW => by
          have h := rsame_any _ F4 y.2.2.2.1 y.1 y.2.1 y.1 y.2.1 (slv (u1, u2, u3)) (slv y.2.2.1) W (Nat.lt_succ_self _) (by omega) (by omega) ((hT5.below hW).keep hW.size fun _ _ _ => rfl) ((hTm5.below hW).keep hW.size fun _ _ _ => rfl)
          rw [told_same hF4] at h
          exact h.mono fun e w' ⟨h1, h2⟩ => ⟨h1, hW.trans (h2.mono hW.size)⟩
        have HKC := Lib.hid (show ∀ W, Below w5.heap.size w5 W → W.cell? ⟨w4.heap.size, 0, none⟩ = some (.int .i64 y.1) ∧ W.cell? ⟨w4.heap.size, 1, none⟩ = some (.int .i64 y.2.1) ∧ W.cell? ⟨w4.heap.size, 2, none⟩ = some (.slice u1 u2 u3) ∧
            W.cell? ⟨bm, om + k * 4, none⟩ = some (.int .i64 y.1) ∧ W.cell? ⟨bm, om + k * 4 + 1, none⟩ = some (.int .i64 y.2.1) ∧ W.cell? ⟨bm, om + k * 4 + 2, none⟩ = some (slv y.2.2.1) from fun W hW =>
          ⟨(hW.cell (p := ⟨w4.heap.size, 0, none⟩) hlt5).trans d0, (hW.cell (p := ⟨w4.heap.size, 1, none⟩) hlt5).trans d1, (hW.cell (p := ⟨w4.heap.size, 2, none⟩) hlt5).trans d2, (hW.cell (p := ⟨bm, om + k * 4, none⟩) hbm).trans c0, (hW.cell (p := ⟨bm, om + k * 4 + 1, none⟩) hbm).trans c1, (hW.cell (p := ⟨bm, om + k * 4 + 2, none⟩) hbm).trans c2⟩)
        have HSM := Lib.hid hsm
        have HR5 := Lib.hid (HB.out.trans (hr5.mono hz))
        have HW5 := Lib.hid hw5
        clear hsm hF4 hT4 hT5 hTm5 hTm hF4s hr5 hI5 hb5 hx5 hb4 hw5 c0 c1 c2 d0 d1 d2 hkR hy4 hy9
        obtain ⟨yk, yn, ⟨m1, m2, m3⟩, yps, yP⟩ := y
        dsimp only [tyVal, slv] at HKC HSM ⊢
        go_wp2_with fail
        rw [HW5.out]
        obtain ⟨k0, k1, k2, k3, k4, k5⟩ := HKC.out w5 (Below.refl _ _)
        go_region_held3 (fun W => W.cell? ⟨w4.heap.size, 0, none⟩ = some (.int .i64 yk) ∧ W.cell? ⟨w4.heap.size, 1, none⟩ = some (.int .i64 yn) ∧ W.cell? ⟨w4.heap.size, 2, none⟩ = some (.slice u1 u2 u3) ∧
            W.cell? ⟨bm, om + k * 4, none⟩ = some (.int .i64 yk) ∧ W.cell? ⟨bm, om + k * 4 + 1, none⟩ = some (.int .i64 yn) ∧ W.cell? ⟨bm, om + k * 4 + 2, none⟩ = some (.slice m1 m2 m3))
          (first | exact ⟨k0, k1, k2, k3, k4, k5⟩ | exact kx1)
          (first
            | (go_at_call 23; with_reducible refine (HSM.out _ (Below.refl _ _).drew).mono ?_; rintro e y1 ⟨rfl, hx1⟩; have kx1 := HKC.out _ hx1))
        have HX := Lib.hid hx1
        clear hx1 k0 k1 k2 k3 k4 k5 kx1
        go_wp2_with fail
        go_roundw
        case rel => exact ⟨k + 1, by omega, by go_num, HR5.out.trans (HX.out.mono HR5.out.size)⟩
        case measure => simp [intOf]; omega
      · obtain rfl : k = lm := by omega
        have hIr := HI.out.keep HB2.out.size HB.out
        have HBR := Lib.hid (HB2.out.trans ((HI.out.below.trans (HB.out.mono HI.out.below.size)).mono HB2.out.size))
        have HIR := Lib.hid hIr
        clear hIr
        by_cases hi : 0 ≤ i ∧ i < R.length
        · obtain ⟨ii, rfl⟩ := Int.eq_ofNat_of_zero_le hi.1
          have hiR : ii < R.length := by omega
          have hik : ii < k := by have := HML.out; have := HLM.out; omega
          obtain ⟨y, hy⟩ : ∃ y, R[ii]? = some y := ⟨_, List.getElem?_eq_getElem hiR⟩
          have hy4 := HSZ.out y (List.mem_of_getElem? hy)
          have hty := type_in wr w2.heap.size g mb vg L R HIR.out.graph HOK.out.ri ii y hy (by omega) most
          have HTY := Lib.hid hty
          have HY := Lib.hid hy
          obtain ⟨q, hq⟩ : ∃ q : Nat, 1 + y.2.2.2.1.size = q := ⟨_, rfl⟩
          have hqi : (1 + (y.2.2.2.1.size : Int)) = (q : Int) := by omega
          have HQ := Lib.hid hqi
          have f8 : decide ((ii : Int) < 0) = false := by simp
          have f9 : decide ((k : Int) ≤ (ii : Int)) = false := by simp; omega
          clear hty hy hqi hi
          by_cases hm : (q : Int) ≤ most
          · have f7 : decide (most < (q : Int)) = false := by simp; omega
            go_wp2_with fail
            refine HTY.out.mono ?_
            rintro e w4 ⟨hb4, h4⟩
            rw [HQ.out, if_pos hm] at h4
            obtain ⟨⟨u1, u2, u3⟩, F4, rfl, hF4, hT4⟩ := h4
            obtain ⟨w5, hw5⟩ : ∃ w5, w4.alloc (.cells #[.int .i64 y.1, .int .i64 y.2.1, .slice u1 u2 u3] 38) = w5 := ⟨_, rfl⟩
            have hb5 : Below w4.heap.size w4 w5 := by rw [← hw5]; exact (Below.refl _ _).alloc (Nat.le_refl _) _
            have hx5 : w5.heap[w4.heap.size]? = some (Obj.cells #[.int .i64 y.1, .int .i64 y.2.1, .slice u1 u2 u3] 38) := by rw [← hw5]; exact heap_alloc_new w4 _
            have hr5 := hb4.trans (hb5.mono hb4.size)
            have hI5 := HIR.out.keep HB2.out.size hr5
            have hlt5 : w4.heap.size < w5.heap.size := (Array.getElem?_eq_some_iff.1 hx5).1
            have hsc := rsizeG w5 _ w.heap.size (Nat.le_trans HB2.out.size hI5.below.size) _ M R hI5.model hI5.eqR ii y HY.out (by omega)
            rw [HQ.out, HLM.out] at hsc
            have HSC := Lib.hid hsc
            have HX5 := Lib.hid hx5
            have HT5 := Lib.hid (And.intro ((hT4.below hb5).keep hb5.size fun _ _ _ => rfl : TyV w5.heap.size w5 F4 (slv (u1, u2, u3))) hF4)
            have HI5 := Lib.hid hI5
            have HR5 := Lib.hid (HBR.out.trans (hr5.mono HBR.out.size))
            have HW5 := Lib.hid hw5
            clear hsc hx5 hI5 hr5 hb5 hb4 hw5 hT4 hF4
            dsimp only [tyVal, slv]
            go_wp2_with fail
            rw [HW5.out]
            refine HSC.out.mono ?_
            rintro e w6 ⟨rfl, hb6⟩
            have hI6 := HI5.out.keep HB2.out.size hb6
            obtain ⟨bm, om, hAm, hbm, c0, c1, c2, hTm⟩ := hI6.model.cells HI.out.eqR ii y HY.out
            subst hAm
            have hx6 := (hb6.block _ hlt5).trans HX5.out
            have d0 : w6.cell? ⟨w4.heap.size, 0, none⟩ = some (.int .i64 y.1) := cell_of_row w6 _ 0 _ _ (0, 0) hx6
            have d1 : w6.cell? ⟨w4.heap.size, 1, none⟩ = some (.int .i64 y.2.1) := cell_of_row w6 _ 1 _ _ (0, 0) hx6
            have d2 : w6.cell? ⟨w4.heap.size, 2, none⟩ = some (.slice u1 u2 u3) := cell_of_row w6 _ 2 _ _ (0, 0) hx6
            have hlt6 : w4.heap.size < w6.heap.size := (Array.getElem?_eq_some_iff.1 hx6).1
            have hF4s : F4.size = y.2.2.2.1.size := by rw [← Fo.pure_size, HT5.out.2, Fo.pure_size]
            have hT6 : TyV w6.heap.size w6 F4 (slv (u1, u2, u3)) := (HT5.out.1.below hb6).keep hb6.size fun _ _ _ => rfl
            have hTm6 : TyV w6.heap.size w6 y.2.2.2.1 (slv y.2.2.1) := hTm.keep (Nat.le_trans HB2.out.size hI6.below.size) fun _ _ _ => rfl
            have hsm : ∀ W, Below w6.heap.size w6 W → Calls Try.prog 23 #[tyVal y.1 y.2.1 (slv (u1, u2, u3)), tyVal y.1 y.2.1 (slv y.2.2.1)] W fun e w' => e = .returned (.bool true) ∧ Below w6.heap.size w6 w' := fun W hW => by
              have h := rsame_any _ F4 y.2.2.2.1 y.1 y.2.1 y.1 y.2.1 (slv (u1, u2, u3)) (slv y.2.2.1) W (Nat.lt_succ_self _) (by omega) (by omega) ((hT6.below hW).keep hW.size fun _ _ _ => rfl) ((hTm6.below hW).keep hW.size fun _ _ _ => rfl)
              rw [told_same HT5.out.2] at h
              exact h.mono fun e w' ⟨h1, h2⟩ => ⟨h1, hW.trans (h2.mono hW.size)⟩
            have HKC := Lib.hid (show ∀ W, Below w6.heap.size w6 W → W.cell? ⟨w4.heap.size, 0, none⟩ = some (.int .i64 y.1) ∧ W.cell? ⟨w4.heap.size, 1, none⟩ = some (.int .i64 y.2.1) ∧ W.cell? ⟨w4.heap.size, 2, none⟩ = some (.slice u1 u2 u3) ∧
                W.cell? ⟨bm, om + ii * 4, none⟩ = some (.int .i64 y.1) ∧ W.cell? ⟨bm, om + ii * 4 + 1, none⟩ = some (.int .i64 y.2.1) ∧ W.cell? ⟨bm, om + ii * 4 + 2, none⟩ = some (slv y.2.2.1) from fun W hW =>
              ⟨(hW.cell (p := ⟨w4.heap.size, 0, none⟩) hlt6).trans d0, (hW.cell (p := ⟨w4.heap.size, 1, none⟩) hlt6).trans d1, (hW.cell (p := ⟨w4.heap.size, 2, none⟩) hlt6).trans d2, (hW.cell (p := ⟨bm, om + ii * 4, none⟩) hbm).trans c0, (hW.cell (p := ⟨bm, om + ii * 4 + 1, none⟩) hbm).trans c1, (hW.cell (p := ⟨bm, om + ii * 4 + 2, none⟩) hbm).trans c2⟩)
            have HSM := Lib.hid hsm
            have HAW := Lib.hid (fun W (hW : Below w6.heap.size w6 W) => (awake11 W).mono fun e w' (h : e = .returned (.bool true) ∧ Below W.heap.size W w') => (⟨h.1, hW.trans (h.2.mono hW.size)⟩ : e = .returned (.bool true) ∧ Below w6.heap.size w6 w'))
            have HR6 := Lib.hid (HR5.out.trans (hb6.mono HR5.out.size))
            clear hsm hT6 hTm6 hTm hF4s hI6 hb6 hx6 c0 c1 c2 d0 d1 d2 hiR hy4 HI5 HX5 HSC HTY
            obtain ⟨yk, yn, ⟨m1, m2, m3⟩, yps, yP⟩ := y
            dsimp only [slv] at HKC HSM hq
            dsimp only [tyVal] at HSM
            clear hq
            go_wp2_with fail
            obtain ⟨k0, k1, k2, k3, k4, k5⟩ := HKC.out w6 (Below.refl _ _)
            go_region_held3 (fun W => W.cell? ⟨w4.heap.size, 0, none⟩ = some (.int .i64 yk) ∧ W.cell? ⟨w4.heap.size, 1, none⟩ = some (.int .i64 yn) ∧ W.cell? ⟨w4.heap.size, 2, none⟩ = some (.slice u1 u2 u3) ∧
                W.cell? ⟨bm, om + ii * 4, none⟩ = some (.int .i64 yk) ∧ W.cell? ⟨bm, om + ii * 4 + 1, none⟩ = some (.int .i64 yn) ∧ W.cell? ⟨bm, om + ii * 4 + 2, none⟩ = some (.slice m1 m2 m3))
              (first | exact ⟨k0, k1, k2, k3, k4, k5⟩ | exact kx2 | exact kx1)
              (first
                | (go_at_call 23; with_reducible refine (HSM.out _ (Below.refl _ _).drew).mono ?_; rintro e y1 ⟨rfl, hx1⟩; have kx1 := HKC.out _ hx1)
                | (go_at_call 11; with_reducible refine (HAW.out _ hx1).mono ?_; rintro e y2 ⟨rfl, hx2⟩; have kx2 := HKC.out _ hx2))
            have HX := Lib.hid hx2
            clear hx1 hx2 k0 k1 k2 k3 k4 k5 kx1 kx2
            go_wp2_with fail
            go_ret
            exact ⟨rfl, HR6.out.trans (HX.out.mono HR6.out.size)⟩
          · have f7 : decide (most < (q : Int)) = true := by simp; omega
            go_wp2_with fail
            refine HTY.out.mono ?_
            rintro e w4 ⟨hb4, h4⟩
            rw [HQ.out, if_neg (by omega)] at h4
            subst h4
            obtain ⟨w5, hw5⟩ : ∃ w5, w4.alloc (.cells #[.int .i64 0, .int .i64 0, .slice none 0 0] 38) = w5 := ⟨_, rfl⟩
            have hb5 : Below w4.heap.size w4 w5 := by rw [← hw5]; exact (Below.refl _ _).alloc (Nat.le_refl _) _
            have hx5 : w5.heap[w4.heap.size]? = some (Obj.cells #[.int .i64 0, .int .i64 0, .slice none 0 0] 38) := by rw [← hw5]; exact heap_alloc_new w4 _
            have d0 : w5.cell? ⟨w4.heap.size, 0, none⟩ = some (.int .i64 0) := cell_of_row w5 _ 0 _ _ (0, 0) hx5
            have d1 : w5.cell? ⟨w4.heap.size, 1, none⟩ = some (.int .i64 0) := cell_of_row w5 _ 1 _ _ (0, 0) hx5
            have d2 : w5.cell? ⟨w4.heap.size, 2, none⟩ = some (.slice none 0 0) := cell_of_row w5 _ 2 _ _ (0, 0) hx5
            have HR5 := Lib.hid (HBR.out.trans ((hb4.trans (hb5.mono hb4.size)).mono HBR.out.size))
            have hI5 := HIR.out.keep HB2.out.size (hb4.trans (hb5.mono hb4.size))
            have hsc := rsizeG w5 _ w.heap.size (Nat.le_trans HB2.out.size hI5.below.size) _ M R hI5.model hI5.eqR ii y HY.out (by omega)
            rw [HQ.out, HLM.out] at hsc
            have HSC := Lib.hid hsc
            have hlt5 : w4.heap.size < w5.heap.size := (Array.getElem?_eq_some_iff.1 hx5).1
            clear hsc hI5
            have HW5 := Lib.hid hw5
            clear hb4 hb5 hx5 hw5
            dsimp only [tyVal]
            go_wp2_with fail
            first | rw [HW5.out] | skip
            refine HSC.out.mono ?_
            rintro e w5' ⟨rfl, hb5'⟩
            have HRS := Lib.hid (HR5.out.trans (hb5'.mono HR5.out.size))
            have d0 : w5'.cell? ⟨w4.heap.size, 0, none⟩ = some (.int .i64 0) := (hb5'.cell (p := ⟨w4.heap.size, 0, none⟩) hlt5).trans d0
            have d1 : w5'.cell? ⟨w4.heap.size, 1, none⟩ = some (.int .i64 0) := (hb5'.cell (p := ⟨w4.heap.size, 1, none⟩) hlt5).trans d1
            have d2 : w5'.cell? ⟨w4.heap.size, 2, none⟩ = some (.slice none 0 0) := (hb5'.cell (p := ⟨w4.heap.size, 2, none⟩) hlt5).trans d2
            clear hb5'
            go_wp2_with fail
            have hs := fun W => rsame_any 1 .nil .nil 0 0 0 0 (.slice none 0 0) (.slice none 0 0) W (by simp [Fo.size]) (by simp [Fo.size]) (by simp [Fo.size]) (no_parts _ _) (no_parts _ _)
            rw [told_none] at hs
            have HS := Lib.hid hs
            clear hs
            dsimp only [tyVal] at HS
            refine (HS.out _).mono ?_
            clear HS
            rintro e w6 ⟨rfl, hb6⟩
            have HB6 := Lib.hid (HRS.out.trans (hb6.mono HRS.out.size))
            clear hb6 d0 d1 d2 HW5
            go_wp2_with fail
            refine (awake11 _).mono ?_
            rintro e w7 ⟨rfl, hb7⟩
            have HB7 := Lib.hid (HB6.out.trans (hb7.mono HB6.out.size))
            clear hb7
            go_wp2_with fail
            go_ret
            exact ⟨rfl, HB7.out⟩
        · by_cases hi0 : i < 0
          · have f1 : decide (i < 0) = true := by simpa using hi0
            have HTO := Lib.hid (type_out wr w2.heap.size g mb vg L (R.map rG) HIR.out.graph i most (by simp; omega))
            go_wp2_with fail
            refine HTO.out.mono ?_
            rintro e w4 ⟨rfl, hb4⟩
            obtain ⟨w5, hw5⟩ : ∃ w5, w4.alloc (.cells #[.int .i64 0, .int .i64 0, .slice none 0 0] 38) = w5 := ⟨_, rfl⟩
            have hb5 : Below w4.heap.size w4 w5 := by rw [← hw5]; exact (Below.refl _ _).alloc (Nat.le_refl _) _
            have hx5 : w5.heap[w4.heap.size]? = some (Obj.cells #[.int .i64 0, .int .i64 0, .slice none 0 0] 38) := by rw [← hw5]; exact heap_alloc_new w4 _
            have d0 : w5.cell? ⟨w4.heap.size, 0, none⟩ = some (.int .i64 0) := cell_of_row w5 _ 0 _ _ (0, 0) hx5
            have d1 : w5.cell? ⟨w4.heap.size, 1, none⟩ = some (.int .i64 0) := cell_of_row w5 _ 1 _ _ (0, 0) hx5
            have d2 : w5.cell? ⟨w4.heap.size, 2, none⟩ = some (.slice none 0 0) := cell_of_row w5 _ 2 _ _ (0, 0) hx5
            have HR5 := Lib.hid (HBR.out.trans ((hb4.trans (hb5.mono hb4.size)).mono HBR.out.size))
            have HRS := HR5
            have HW5 := Lib.hid hw5
            clear hb4 hb5 hx5 hw5
            dsimp only [tyVal]
            go_wp2_with fail
            first | rw [HW5.out] | skip
            have hs := fun W => rsame_any 1 .nil .nil 0 0 0 0 (.slice none 0 0) (.slice none 0 0) W (by simp [Fo.size]) (by simp [Fo.size]) (by simp [Fo.size]) (no_parts _ _) (no_parts _ _)
            rw [told_none] at hs
            have HS := Lib.hid hs
            clear hs
            dsimp only [tyVal] at HS
            refine (HS.out _).mono ?_
            clear HS
            rintro e w6 ⟨rfl, hb6⟩
            have HB6 := Lib.hid (HRS.out.trans (hb6.mono HRS.out.size))
            clear hb6 d0 d1 d2 HW5
            go_wp2_with fail
            refine (awake11 _).mono ?_
            rintro e w7 ⟨rfl, hb7⟩
            have HB7 := Lib.hid (HB6.out.trans (hb7.mono HB6.out.size))
            clear hb7
            go_wp2_with fail
            go_ret
            exact ⟨rfl, HB7.out⟩
          · have f1 : decide (i < 0) = false := by simpa using hi0
            have f2 : decide ((k : Int) ≤ i) = true := by have := HML.out; have := HLM.out; simp; omega
            have HTO := Lib.hid (type_out wr w2.heap.size g mb vg L (R.map rG) HIR.out.graph i most (by simp; omega))
            go_wp2_with fail
            refine HTO.out.mono ?_
            rintro e w4 ⟨rfl, hb4⟩
            obtain ⟨w5, hw5⟩ : ∃ w5, w4.alloc (.cells #[.int .i64 0, .int .i64 0, .slice none 0 0] 38) = w5 := ⟨_, rfl⟩
            have hb5 : Below w4.heap.size w4 w5 := by rw [← hw5]; exact (Below.refl _ _).alloc (Nat.le_refl _) _
            have hx5 : w5.heap[w4.heap.size]? = some (Obj.cells #[.int .i64 0, .int .i64 0, .slice none 0 0] 38) := by rw [← hw5]; exact heap_alloc_new w4 _
            have d0 : w5.cell? ⟨w4.heap.size, 0, none⟩ = some (.int .i64 0) := cell_of_row w5 _ 0 _ _ (0, 0) hx5
            have d1 : w5.cell? ⟨w4.heap.size, 1, none⟩ = some (.int .i64 0) := cell_of_row w5 _ 1 _ _ (0, 0) hx5
            have d2 : w5.cell? ⟨w4.heap.size, 2, none⟩ = some (.slice none 0 0) := cell_of_row w5 _ 2 _ _ (0, 0) hx5
            have HR5 := Lib.hid (HBR.out.trans ((hb4.trans (hb5.mono hb4.size)).mono HBR.out.size))
            have HRS := HR5
            have HW5 := Lib.hid hw5
            clear hb4 hb5 hx5 hw5
            dsimp only [tyVal]
            go_wp2_with fail
            first | rw [HW5.out] | skip
            have hs := fun W => rsame_any 1 .nil .nil 0 0 0 0 (.slice none 0 0) (.slice none 0 0) W (by simp [Fo.size]) (by simp [Fo.size]) (by simp [Fo.size]) (no_parts _ _) (no_parts _ _)
            rw [told_none] at hs
            have HS := Lib.hid hs
            clear hs
            dsimp only [tyVal] at HS
            refine (HS.out _).mono ?_
            clear HS
            rintro e w6 ⟨rfl, hb6⟩
            have HB6 := Lib.hid (HRS.out.trans (hb6.mono HRS.out.size))
            clear hb6 d0 d1 d2 HW5
            go_wp2_with fail
            refine (awake11 _).mono ?_
            rintro e w7 ⟨rfl, hb7⟩
            have HB7 := Lib.hid (HB6.out.trans (hb7.mono HB6.out.size))
            clear hb7
            go_wp2_with fail
            go_ret
            exact ⟨rfl, HB7.out⟩
end Go.Proofs.Ytbdckmnppeglfaa
