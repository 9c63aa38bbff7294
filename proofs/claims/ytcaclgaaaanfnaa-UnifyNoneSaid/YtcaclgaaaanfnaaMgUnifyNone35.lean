/- Texts of one proof, one behind the other. -/
import Derived.Test.YtcaclgaaaanfnaaMgUnifyNone34
import Derived.Test.YtcaclgaaaanfnaaMgUnifyNone27
import Derived.Test.YtcaclgaaaanfnaaMgUnifyNone1
/- unify's example, walked. -/
namespace Go.Proofs.Ytcaclgaaaanfnaa
open Go.RowKit Go.Shelf
open Un (Else StM rowI UFo own_else dg swp wp_world paint cnt Rings)
set_option maxRecDepth 100000
theorem CsM.tight {O : Nat → Prop} {w : World} {cb m : Nat} {G : List Gn} {E : List (Nat × Nat)} {st fs : Int} (h : CsM O w cb G E st fs m) : ∃ O' : Nat → Prop, (∀ k, O' k → O k ∧ k < w.heap.size) ∧ CsM O' w cb G E st fs m := by
  obtain ⟨⟨A, kn, nx, col, ro, hC, h2⟩, h3⟩ := h
  exact ⟨fun k => A.D k ∨ A.F cb k, fun k hk => ⟨hC.own k hk, hC.lt hk⟩, ⟨A, kn, nx, col, ro, hC.tight, h2⟩, h3⟩
theorem bnd {d j J : Nat} (hd : d ≤ 21) (hj : j ≤ J) : 4 * (d : Int) * (j : Int) ≤ 84 * (J : Int) := by
  have h : 4 * d * j ≤ 84 * J := Nat.mul_le_mul (by omega) hj
  have h2 : ((4 * d * j : Nat) : Int) ≤ ((84 * J : Nat) : Int) := by exact_mod_cast h
  push_cast at h2
  exact h2
theorem else_low {B : Nat} {w w' : World} (h : Below B w w') : Else (fun j => B ≤ j) w w' := ⟨h.os, h.tape, h.output, h.size, fun k _ hk => h.block k (by omega)⟩
set_option maxHeartbeats 4000000 in
theorem awake12 (w : World) : Calls Try.prog 10 #[] w fun e w' => e = .returned (.bool true) ∧ Below w.heap.size w w' := by
  go_enter Try.func10, Try.ntmps10
  go_wp2_with fail
  refine (new_cs w).mono ?_
  rintro e w1 ⟨cb, rfl, hC1, hb1⟩
  obtain ⟨O1, hO1, hC1⟩ := hC1.tight
  have H1 := Lib.hid (And.intro hO1 (And.intro hC1 hb1))
  clear hO1 hC1 hb1
  go_upto_region 3 with fail
  refine wp_world (fun Z => Z.heap[w1.heap.size]? = some (.cells #[.int .i64 2, .int .i64 0, .slice none 0 0] 36) ∧ Z.heap[w1.heap.size + 1]? = some (.cells #[.int .i64 3, .int .i64 0, .slice none 0 0] 36) ∧ Below w1.heap.size w1 Z) ?_ ?_
  · refine ⟨(Below.heap_alloc _ _ _ (by simp)).trans (heap_alloc_new _ _), ?_, ((Below.refl _ _).alloc (Nat.le_refl _) _).alloc (by simp) _⟩
    have h := heap_alloc_new (w1.alloc (.cells #[.int .i64 2, .int .i64 0, .slice none 0 0] 36)) (.cells #[.int .i64 3, .int .i64 0, .slice none 0 0] 36)
    rwa [World.size_alloc] at h
  rintro V ⟨hx2, hx3, hbV⟩
  have HV := Lib.hid (And.intro hx2 (And.intro hx3 hbV))
  obtain ⟨S0, hSof, hSto⟩ : ∃ S0 : World → Prop, (∀ W : World, W.heap[w1.heap.size]? = some (.cells #[.int .i64 2, .int .i64 0, .slice none 0 0] 36) ∧ W.heap[w1.heap.size + 1]? = some (.cells #[.int .i64 3, .int .i64 0, .slice none 0 0] 36) → S0 W) ∧ (∀ W, S0 W → (W.heap[w1.heap.size]? = some (.cells #[.int .i64 2, .int .i64 0, .slice none 0 0] 36) ∧ W.heap[w1.heap.size + 1]? = some (.cells #[.int .i64 3, .int .i64 0, .slice none 0 0] 36))) := ⟨_, fun _ h => h, fun _ h => h⟩
  have EX2 : Hid (∀ W, S0 W → W.cell? ⟨w1.heap.size, 0, none⟩ = some (.int .i64 2) ∧ W.cell? ⟨w1.heap.size, 1, none⟩ = some (.int .i64 0) ∧ W.cell? ⟨w1.heap.size, 2, none⟩ = some (.slice none 0 0)) := Lib.hid fun W h => ⟨cell_of_row W _ 0 _ _ (0, 0) (hSto W h).1, cell_of_row W _ 1 _ _ (0, 0) (hSto W h).1, cell_of_row W _ 2 _ _ (0, 0) (hSto W h).1⟩
  have EX3 : Hid (∀ W, S0 W → W.cell? ⟨w1.heap.size + 1, 0, none⟩ = some (.int .i64 3) ∧ W.cell? ⟨w1.heap.size + 1, 1, none⟩ = some (.int .i64 0) ∧ W.cell? ⟨w1.heap.size + 1, 2, none⟩ = some (.slice none 0 0)) := Lib.hid fun W h => ⟨cell_of_row W _ 0 _ _ (0, 0) (hSto W h).2, cell_of_row W _ 1 _ _ (0, 0) (hSto W h).2, cell_of_row W _ 2 _ _ (0, 0) (hSto W h).2⟩
  have HSB : Hid (∀ W W', S0 W → Below W.heap.size W W' → S0 W') := Lib.hid fun W W' h hb => hSof W' ⟨(hb.block _ (Array.getElem?_eq_some_iff.1 (hSto W h).1).1).trans (hSto W h).1, (hb.block _ (Array.getElem?_eq_some_iff.1 (hSto W h).2).1).trans (hSto W h).2⟩
  have HSE : Hid (∀ (T : Nat → Prop) W W', S0 W → Else T W W' → ¬ T w1.heap.size → ¬ T (w1.heap.size + 1) → S0 W') := Lib.hid fun T W W' h he t1 t2 => hSof W' ⟨(he.block _ (Array.getElem?_eq_some_iff.1 (hSto W h).1).1 t1).trans (hSto W h).1, (he.block _ (Array.getElem?_eq_some_iff.1 (hSto W h).2).1 t2).trans (hSto W h).2⟩
  have hS : S0 V.drew := hSof _ ⟨hx2, hx3⟩
  have hbV' : Below w1.heap.size w1 V.drew := hbV.trans ((Below.refl _ V).drew.mono hbV.size)
  have HBV := Lib.hid hbV'
  have HVV : Hid (V.heap.size = V.drew.heap.size) := Lib.hid rfl
  clear hx2 hx3 hbV hSof hSto hbV'
  refine wp_region_held (S := S0) (by kernel_rfl) ?_
  change wpAnyH _ _ _ _ _ 8 (List.replicate 8 false).toArray _ V.drew
  simp only [List.replicate_succ, List.replicate_zero]
  refine any_take (i := 0) (some 9) (.pointer (some ⟨cb, 0, none⟩)) rfl (by rfl) (by kernel_rfl) (by kernel_rfl) (by kernel_rfl) (fun _ _ _ h => h) (Or.inl ⟨by kernel_rfl, (fun W hw => by clear hw; go_simp)⟩) hS ?_
  simp only [Act.put, List.setIfInBounds_toArray, List.set_cons_zero, List.set_cons_succ]
  refine any_take (i := 2) (some 11) (.agg #[.int .i64 2, .int .i64 0, .slice none 0 0]) rfl (by rfl) (by kernel_rfl) (by kernel_rfl) (by kernel_rfl) (fun _ _ _ h => h) (Or.inl ⟨by kernel_rfl, (fun W hw => by obtain ⟨n0, n1, n2⟩ := EX2.out W hw; clear hw; go_simp)⟩) hS ?_
  simp only [Act.put, List.setIfInBounds_toArray, List.set_cons_zero, List.set_cons_succ]
  refine wpAnyH_all (rs := [1]) (by kernel_rfl) (by simp) fun q' hq' => ?_
  obtain rfl : q' = 1 := by simpa using hq'
  refine ops_call (d := some 10) rfl (by rfl) (by kernel_rfl) (by go_simp) ((var_any 0 _).mono ?_)
  rintro e w4 ⟨rfl, hb4⟩
  have hS4 := HSB.out _ _ hS hb4
  have HB4 := Lib.hid (HBV.out.trans (hb4.mono HBV.out.size))
  clear hb4
  dsimp only [tyVal]
  refine ⟨_, rfl, hS4, ?_⟩
  simp only [Act.put, List.setIfInBounds_toArray, List.set_cons_zero, List.set_cons_succ]
  refine wpAnyH_all (rs := [3]) (by kernel_rfl) (by simp) fun q' hq' => ?_
  obtain rfl : q' = 3 := by simpa using hq'
  refine ops_call (d := some 12) rfl (by rfl) (by kernel_rfl) (by go_simp) ((var_any 1 _).mono ?_)
  rintro e w5 ⟨rfl, hb5⟩
  have hS5 := HSB.out _ _ hS4 hb5
  have HB5 := Lib.hid (HB4.out.trans (hb5.mono HB4.out.size))
  clear hb5 HB4
  dsimp only [tyVal]
  refine ⟨_, rfl, hS5, ?_⟩
  simp only [Act.put, List.setIfInBounds_toArray, List.set_cons_zero, List.set_cons_succ]
  refine wpAnyH_all (rs := [4]) (by kernel_rfl) (by simp) fun q' hq' => ?_
  obtain rfl : q' = 4 := by simpa using hq'
  have hx6 : (w5.alloc (.cells #[.int .i64 2, .int .i64 0, .slice none 0 0, .int .i64 1, .int .i64 1, .slice none 0 0] 36)).heap[w5.heap.size]? = some (.cells #[.int .i64 2, .int .i64 0, .slice none 0 0, .int .i64 1, .int .i64 1, .slice none 0 0] 36) := heap_alloc_new _ _
  have hb6 : Below w5.heap.size w5 (w5.alloc (.cells #[.int .i64 2, .int .i64 0, .slice none 0 0, .int .i64 1, .int .i64 1, .slice none 0 0] 36)) := (Below.refl _ _).alloc (Nat.le_refl _) _
  have hS6 := HSB.out _ _ hS5 hb6
  have hz6 : (w5.alloc (.cells #[.int .i64 2, .int .i64 0, .slice none 0 0, .int .i64 1, .int .i64 1, .slice none 0 0] 36)).heap.size = w5.heap.size + 1 := by simp
  refine ops_val (d := some 13) (v := .slice (some ⟨w5.heap.size, 0, none⟩) 2 2) (w' := w5.alloc (.cells #[.int .i64 2, .int .i64 0, .slice none 0 0, .int .i64 1, .int .i64 1, .slice none 0 0] 36)) rfl (by rfl) (by kernel_rfl) (by go_simp) hS6 ?_
  simp only [Act.put, List.setIfInBounds_toArray, List.set_cons_zero, List.set_cons_succ]
  obtain ⟨w6, hw6⟩ : ∃ z, w5.alloc (.cells #[.int .i64 2, .int .i64 0, .slice none 0 0, .int .i64 1, .int .i64 1, .slice none 0 0] 36) = z := ⟨_, rfl⟩
  rw [hw6] at hx6 hb6 hS6 hz6 ⊢
  have HB6 := Lib.hid (HB5.out.trans (hb6.mono HB5.out.size))
  have har := arrow_pair w6 w5.heap.size 2 2 0 1 1 (none, 0, 0) (none, 0, 0) .nil .nil (by omega) (Nat.le_refl _) (by unfold maxLen; omega) (cell_of_row _ _ 0 _ _ (0, 0) hx6) (cell_of_row _ _ 1 _ _ (0, 0) hx6) (cell_of_row _ _ 2 _ _ (0, 0) hx6) (cell_of_row _ _ 3 _ _ (0, 0) hx6) (cell_of_row _ _ 4 _ _ (0, 0) hx6) (cell_of_row _ _ 5 _ _ (0, 0) hx6) (no_parts _ _) (no_parts _ _) (by simp [Fo.size])
  have HAR := Lib.hid har
  clear har hx6 hb6 hw6 hS5 hS4 HB5 hz6
  refine wpAnyH_all (rs := [5]) (by kernel_rfl) (by simp) fun q' hq' => ?_
  obtain rfl : q' = 5 := by simpa using hq'
  refine ops_call (d := some 14) rfl (by rfl) (by kernel_rfl) (by go_simp) (HAR.out.mono ?_)
  clear HAR
  rintro e w7 ⟨⟨u1, u2, u3⟩, rfl, hb7, hF7⟩
  have hS7 := HSB.out _ _ hS6 hb7
  have HB7 := Lib.hid (HB6.out.trans (hb7.mono HB6.out.size))
  have h67 := hb7.size
  dsimp only [tyVal, slv]
  refine ⟨_, rfl, hS7, ?_⟩
  simp only [Act.put, List.setIfInBounds_toArray, List.set_cons_zero, List.set_cons_succ]
  have hC7 := H1.out.2.1.keep (T := fun j => w1.heap.size ≤ j) (else_low HB7.out) fun j hj => by have := (H1.out.1 j hj).2; omega
  have HEQ := equate_ok hC7 1 0 4 0 (none, 0, 0) (u1, u2, u3) .nil (exP 2 0 1 1) (TyLat.var 0 (by omega) (by decide)) (TyLat.fresh hF7 (fun j hj => by have := (H1.out.1 j hj).2; have := HB6.out.size; omega) ⟨rfl, ⟨rfl, trivial, rfl, trivial, trivial⟩, trivial⟩ ⟨by decide, ⟨by decide, trivial, by decide, trivial, trivial⟩, trivial⟩) (by decide) (by omega) (by omega)
  rw [ex1.1, ex1.2] at HEQ
  dsimp only [tyVal, slv] at HEQ
  have HEQH := Lib.hid HEQ
  clear HEQ hC7 hF7 hb7 hS6
  refine wpAnyH_all (rs := [6]) (by kernel_rfl) (by simp) fun q' hq' => ?_
  obtain rfl : q' = 6 := by simpa using hq'
  refine ops_call (d := some 15) rfl (by rfl) (by kernel_rfl) (by go_simp) (HEQH.out.mono ?_)
  clear HEQH
  rintro e w8 ⟨hE8, st8, j8, hs1, hs2, h⟩
  rcases h with ⟨_, hc, _⟩ | ⟨rfl, _, fs8, m8, hC8, hf1, hf2, hj8⟩
  · exact absurd hc (mdl_no ex_m1)
  have hS8 := HSE.out _ _ _ hS7 hE8 (fun e => by have := (H1.out.1 _ e).2; omega) (fun e => by have := (H1.out.1 _ e).2; omega)
  have hd8 : dg exG1.length ≤ 21 := Un.dg_le (by decide)
  have hj9 : j8 ≤ 1000 := by have e : exG1.length = 4 := rfl; rw [e] at hj8; simp only [List.length_nil] at hj8; omega
  have hbn := bnd hd8 hj9
  obtain ⟨O8, hO8, hC8⟩ := hC8.tight
  have HB8 := Lib.hid (show Below w.heap.size w w8 from (H1.out.2.2.trans (HB7.out.mono H1.out.2.2.size)).trans (hE8.below (fun j hj => (H1.out.1 j hj).1) (by have := HB7.out.size; have := H1.out.2.2.size; omega)))
  have H8 := Lib.hid (And.intro hC8 (And.intro (show ∀ j, O8 j → w.heap.size ≤ j ∧ j < w8.heap.size ∧ j ≠ w1.heap.size ∧ j ≠ w1.heap.size + 1 from fun j hj => by
    obtain ⟨h1, h2⟩ := hO8 j hj
    have a1 := HB7.out.size
    have a2 := H1.out.2.2.size
    have a3 := HV.out.2.2.size
    have a4 := (Array.getElem?_eq_some_iff.1 HV.out.2.1).1
    have a5 := h67
    have a6 := HB6.out.size
    have a7 : w1.heap.size + 1 < w7.heap.size := World.block_lt_of_cell? _ _ (EX3.out _ hS7).1
    rcases h1 with h1 | h1
    · obtain ⟨b1, b2⟩ := H1.out.1 j h1
      omega
    · omega) (show 0 ≤ st8 ∧ st8 ≤ 1000000 ∧ 0 ≤ fs8 ∧ fs8 ≤ 1000000 from by omega)))
  have H8m := Lib.hid (show m8 ≤ 1000 from by have e : exG1.length = 4 := rfl; rw [e] at hj8; simp only [List.length_nil] at hj8; omega)
  clear hE8 hs1 hs2 hC8 hf1 hf2 hj8 hd8 hj9 hbn hO8 hS7 h67
  refine ⟨_, rfl, hS8, ?_⟩
  simp only [Act.put, List.setIfInBounds_toArray, List.set_cons_zero, List.set_cons_succ]
  refine any_take (i := 7) (some 4) (.int .i64 0) rfl (by rfl) (by kernel_rfl) (by kernel_rfl) (by kernel_rfl) (fun _ _ _ h => h) (Or.inl ⟨by kernel_rfl, (fun W hw => by clear hw; go_simp)⟩) hS8 ?_
  simp only [Act.put, List.setIfInBounds_toArray, List.set_cons_zero, List.set_cons_succ]
  refine wpAnyH_done (by kernel_rfl) ?_ _
  clear HB6 HB7
  go_wp2_with fail
  have hS := HSB.out _ _ hS8 ((Below.refl _ w8).drew)
  have HBV8 := Lib.hid ((Below.refl w8.heap.size w8).drew)
  clear hS8
  refine wp_region_held (S := S0) (by kernel_rfl) ?_
  change wpAnyH _ _ _ _ _ 8 (List.replicate 8 false).toArray _ w8.drew
  simp only [List.replicate_succ, List.replicate_zero]
  refine any_take (i := 0) (some 16) (.pointer (some ⟨cb, 0, none⟩)) rfl (by rfl) (by kernel_rfl) (by kernel_rfl) (by kernel_rfl) (fun _ _ _ h => h) (Or.inl ⟨by kernel_rfl, (fun W hw => by clear hw; go_simp)⟩) hS ?_
  simp only [Act.put, List.setIfInBounds_toArray, List.set_cons_zero, List.set_cons_succ]
  refine any_take (i := 3) (some 19) (.agg #[.int .i64 3, .int .i64 0, .slice none 0 0]) rfl (by rfl) (by kernel_rfl) (by kernel_rfl) (by kernel_rfl) (fun _ _ _ h => h) (Or.inl ⟨by kernel_rfl, (fun W hw => by obtain ⟨n0, n1, n2⟩ := EX3.out W hw; clear hw; go_simp)⟩) hS ?_
  simp only [Act.put, List.setIfInBounds_toArray, List.set_cons_zero, List.set_cons_succ]
  refine wpAnyH_all (rs := [1]) (by kernel_rfl) (by simp) fun q' hq' => ?_
  obtain rfl : q' = 1 := by simpa using hq'
  refine ops_call (d := some 17) rfl (by rfl) (by kernel_rfl) (by go_simp) ((var_any 0 _).mono ?_)
  rintro e x4 ⟨rfl, hb4⟩
  have hS4 := HSB.out _ _ hS hb4
  have HB4 := Lib.hid (HBV8.out.trans (hb4.mono HBV8.out.size))
  clear hb4
  dsimp only [tyVal]
  refine ⟨_, rfl, hS4, ?_⟩
  simp only [Act.put, List.setIfInBounds_toArray, List.set_cons_zero, List.set_cons_succ]
  refine wpAnyH_all (rs := [2]) (by kernel_rfl) (by simp) fun q' hq' => ?_
  obtain rfl : q' = 2 := by simpa using hq'
  refine ops_call (d := some 18) rfl (by rfl) (by kernel_rfl) (by go_simp) ((var_any 2 _).mono ?_)
  rintro e x5 ⟨rfl, hb5⟩
  have hS5 := HSB.out _ _ hS4 hb5
  have HB5 := Lib.hid (HB4.out.trans (hb5.mono HB4.out.size))
  clear hb5 HB4
  dsimp only [tyVal]
  refine ⟨_, rfl, hS5, ?_⟩
  simp only [Act.put, List.setIfInBounds_toArray, List.set_cons_zero, List.set_cons_succ]
  refine wpAnyH_all (rs := [4]) (by kernel_rfl) (by simp) fun q' hq' => ?_
  obtain rfl : q' = 4 := by simpa using hq'
  have hx6 : (x5.alloc (.cells #[.int .i64 1, .int .i64 2, .slice none 0 0, .int .i64 3, .int .i64 0, .slice none 0 0] 36)).heap[x5.heap.size]? = some (.cells #[.int .i64 1, .int .i64 2, .slice none 0 0, .int .i64 3, .int .i64 0, .slice none 0 0] 36) := heap_alloc_new _ _
  have hb6 : Below x5.heap.size x5 (x5.alloc (.cells #[.int .i64 1, .int .i64 2, .slice none 0 0, .int .i64 3, .int .i64 0, .slice none 0 0] 36)) := (Below.refl _ _).alloc (Nat.le_refl _) _
  have hS6 := HSB.out _ _ hS5 hb6
  have hz6 : (x5.alloc (.cells #[.int .i64 1, .int .i64 2, .slice none 0 0, .int .i64 3, .int .i64 0, .slice none 0 0] 36)).heap.size = x5.heap.size + 1 := by simp
  refine ops_val (d := some 20) (v := .slice (some ⟨x5.heap.size, 0, none⟩) 2 2) (w' := x5.alloc (.cells #[.int .i64 1, .int .i64 2, .slice none 0 0, .int .i64 3, .int .i64 0, .slice none 0 0] 36)) rfl (by rfl) (by kernel_rfl) (by go_simp) hS6 ?_
  simp only [Act.put, List.setIfInBounds_toArray, List.set_cons_zero, List.set_cons_succ]
  obtain ⟨x6, hw6⟩ : ∃ z, x5.alloc (.cells #[.int .i64 1, .int .i64 2, .slice none 0 0, .int .i64 3, .int .i64 0, .slice none 0 0] 36) = z := ⟨_, rfl⟩
  rw [hw6] at hx6 hb6 hS6 hz6 ⊢
  have HB6 := Lib.hid (HB5.out.trans (hb6.mono HB5.out.size))
  have har := arrow_pair x6 x5.heap.size 2 1 2 3 0 (none, 0, 0) (none, 0, 0) .nil .nil (by omega) (Nat.le_refl _) (by unfold maxLen; omega) (cell_of_row _ _ 0 _ _ (0, 0) hx6) (cell_of_row _ _ 1 _ _ (0, 0) hx6) (cell_of_row _ _ 2 _ _ (0, 0) hx6) (cell_of_row _ _ 3 _ _ (0, 0) hx6) (cell_of_row _ _ 4 _ _ (0, 0) hx6) (cell_of_row _ _ 5 _ _ (0, 0) hx6) (no_parts _ _) (no_parts _ _) (by simp [Fo.size])
  have HAR := Lib.hid har
  clear har hx6 hb6 hw6 hS5 hS4 HB5 hz6
  refine wpAnyH_all (rs := [5]) (by kernel_rfl) (by simp) fun q' hq' => ?_
  obtain rfl : q' = 5 := by simpa using hq'
  refine ops_call (d := some 21) rfl (by rfl) (by kernel_rfl) (by go_simp) (HAR.out.mono ?_)
  clear HAR
  rintro e x7 ⟨⟨u1, u2, u3⟩, rfl, hb7, hF7⟩
  have hS7 := HSB.out _ _ hS6 hb7
  have HB7 := Lib.hid (HB6.out.trans (hb7.mono HB6.out.size))
  have h67 := hb7.size
  dsimp only [tyVal, slv]
  refine ⟨_, rfl, hS7, ?_⟩
  simp only [Act.put, List.setIfInBounds_toArray, List.set_cons_zero, List.set_cons_succ]
  have hC7 := H8.out.1.keep (T := fun j => w8.heap.size ≤ j) (else_low HB7.out) fun j hj => by have := (H8.out.2.1 j hj).2.1; omega
  have HEQ := equate_ok hC7 1 0 4 0 (none, 0, 0) (u1, u2, u3) .nil (exP 1 2 3 0) (TyLat.var 0 (by omega) (by decide)) (TyLat.fresh hF7 (fun j hj => by have := (H8.out.2.1 j hj).2.1; have := HB6.out.size; omega) ⟨rfl, ⟨rfl, trivial, rfl, trivial, trivial⟩, trivial⟩ ⟨by decide, ⟨by decide, trivial, by decide, trivial, trivial⟩, trivial⟩) (by decide) (by have := H8.out.2.2; omega) (by have := H8.out.2.2; omega)
  rw [ex2.1, ex2.2] at HEQ
  dsimp only [tyVal, slv] at HEQ
  have HEQH := Lib.hid HEQ
  clear HEQ hC7 hF7 hb7 hS6
  refine wpAnyH_all (rs := [6]) (by kernel_rfl) (by simp) fun q' hq' => ?_
  obtain rfl : q' = 6 := by simpa using hq'
  refine ops_call (d := some 22) rfl (by rfl) (by kernel_rfl) (by go_simp) (HEQH.out.mono ?_)
  clear HEQH
  rintro e w9 ⟨hE9, st9, j9, hs1, hs2, h⟩
  rcases h with ⟨_, hc, _⟩ | ⟨rfl, _, fs9, m9, hC9, hf1, hf2, hj9⟩
  · exact absurd hc (mdl_no ex_m2)
  have hS9 := HSE.out _ _ _ hS7 hE9 (fun e => (H8.out.2.1 _ e).2.2.1 rfl) (fun e => (H8.out.2.1 _ e).2.2.2 rfl)
  have hm8 : m8 ≤ 1000 := by have := H8m.out; omega
  have hd9 : dg exG2.length ≤ 21 := Un.dg_le (by decide)
  have hj10 : j9 ≤ 100000 := by have e : exG2.length = 7 := rfl; have e2 : exG1.length = 4 := rfl; rw [e, e2] at hj9; omega
  have hbn := bnd hd9 hj10
  have HB9 := Lib.hid (show Below w.heap.size w w9 from (HB8.out.trans (HB7.out.mono HB8.out.size)).trans (hE9.below (fun j hj => (H8.out.2.1 j hj).1) (by have := HB7.out.size; have := HB8.out.size; omega)))
  have H9 := Lib.hid (And.intro hC9 (show 0 ≤ fs9 ∧ fs9 ≤ 100000000 from by have := H8.out.2.2; omega))
  have HO9 : Hid (∀ j, (O8 j ∨ x7.heap.size ≤ j) → w.heap.size ≤ j) := Lib.hid fun j hj => by
    have := HB7.out.size
    have := HB8.out.size
    rcases hj with hj | hj
    · exact (H8.out.2.1 j hj).1
    · omega
  clear hE9 hs1 hs2 hC9 hf1 hf2 hj9 hd9 hj10 hbn hS7 h67 hm8
  refine ⟨_, rfl, hS9, ?_⟩
  simp only [Act.put, List.setIfInBounds_toArray, List.set_cons_zero, List.set_cons_succ]
  refine any_take (i := 7) (some 5) (.int .i64 0) rfl (by rfl) (by kernel_rfl) (by kernel_rfl) (by kernel_rfl) (fun _ _ _ h => h) (Or.inl ⟨by kernel_rfl, (fun W hw => by clear hw; go_simp)⟩) hS9 ?_
  simp only [Act.put, List.setIfInBounds_toArray, List.set_cons_zero, List.set_cons_succ]
  refine wpAnyH_done (by kernel_rfl) ?_ _
  clear HB6 HB7 hS hS9 EX2 EX3 HSB HSE
  have HK := kind_cs H9.out.1 (by have := H9.out.2; omega) 2 (by decide)
  have HKH := Lib.hid HK
  clear HK
  go_wp2_with fail
  refine HKH.out.mono ?_
  clear HKH
  rintro e w10 ⟨r, k10, rfl, hr, hk, hC, hE⟩
  obtain rfl := ex_k2 hr
  have hd9 : dg exG2.length ≤ 21 := Un.dg_le (by decide)
  have H10 := Lib.hid (And.intro hC (And.intro (show Below w.heap.size w w10 from HB9.out.trans (hE.below (fun j hj => HO9.out j hj) HB9.out.size)) (show (k10 : Int) ≤ 21 from by omega)))
  clear hr hk hC hE hd9
  have HK := kind_cs H10.out.1 (by have := H9.out.2; have := H10.out.2.2; omega) 1 (by decide)
  have HKH := Lib.hid HK
  clear HK
  go_wp2_with fail
  refine HKH.out.mono ?_
  clear HKH
  rintro e w11 ⟨r, k11, rfl, hr, hk, hC, hE⟩
  obtain rfl := ex_k1 hr
  have hd9 : dg exG2.length ≤ 21 := Un.dg_le (by decide)
  have H11 := Lib.hid (And.intro hC (And.intro (show Below w.heap.size w w11 from H10.out.2.1.trans (hE.below (fun j hj => HO9.out j hj) H10.out.2.1.size)) (show (k11 : Int) ≤ 21 from by omega)))
  clear hr hk hC hE hd9
  have HK := same_cs H11.out.1 (by have := H9.out.2; have := H10.out.2.2; have := H11.out.2.2; omega) (by decide) 1 2 (by decide) (by decide)
  have HKH := Lib.hid HK
  clear HK
  go_wp2_with fail
  refine HKH.out.mono ?_
  clear HKH
  rintro e w12 ⟨t, k12, rfl, ht, hk, hC, hE⟩
  obtain rfl : t = false := by
    cases t
    · rfl
    · exact absurd (ht.1 rfl) ex_s
  have H12 := Lib.hid (show Below w.heap.size w w12 from H11.out.2.1.trans (hE.below (fun j hj => HO9.out j hj) H11.out.2.1.size))
  clear ht hk hC hE
  go_wp2_with fail
  exact bodyPost_ret (results_tmp rfl _ _ _) rfl ⟨rfl, H12.out⟩
end Go.Proofs.Ytcaclgaaaanfnaa
/- UnifyNone, whole. -/
namespace Go.Proofs.Ytcaclgaaaanfnaa
open Go.RowKit
theorem i64_wf {n : Int} (h : (Lit.int .i64 n).wf = true) : (Lit.int .i64 n).wf = true := h
theorem unone_whole (w : World) (k n k' n' : Int) (F F' : Fo) (u u' : Sl) (v : Int) (hF : TyV w.heap.size w F (slv u)) (hF' : TyV w.heap.size w F' (slv u')) :
    Calls Try.prog 6 #[tyVal k n (slv u), tyVal k' n' (slv u'), .int .i64 v] w fun e w' => e = .returned (.bool true) ∧ Below w.heap.size w w' :=
  unone_law awake12 w k n k' n' F F' u u' v hF hF'
end Go.Proofs.Ytcaclgaaaanfnaa
