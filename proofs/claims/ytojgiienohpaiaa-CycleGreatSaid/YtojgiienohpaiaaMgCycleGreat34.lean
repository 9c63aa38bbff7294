/- Texts of one proof, one behind the other. -/
import Derived.Test.YtojgiienohpaiaaMgCycleGreat33
import Derived.Test.YtojgiienohpaiaaMgCycleGreat31
import Derived.Test.YtojgiienohpaiaaMgCycleGreat27
import Derived.Test.YtojgiienohpaiaaMgCycleGreat18
import Derived.Test.YtojgiienohpaiaaMgCycleGreat25
/- cycle's example, walked. -/
namespace Go.Proofs.Ytojgiienohpaiaa
open Go.RowKit Go.Shelf
open Un (Else StM rowI UFo own_else dg swp wp_world paint cnt Rings)
set_option maxRecDepth 100000
theorem no_acc {α : Type} {r : α → α → Prop} {a : α} (h : r a a) : ¬ Acc r a := fun ha => by
  induction ha with
  | intro x _ ih => exact ih x h h
def cyG : List Gn := [(1, 0, 1, []), (2, 0, 1, []), (4, 0, 3, [0, 1])]
theorem cy_ex : eqG [] 1 0 .nil 4 0 (exP 1 0 2 0) = cyG ∧ eqE [] [] 1 0 .nil 4 0 (exP 1 0 2 0) = [(0, 2)] := by
  simp only [eqG, eqE, exP, gadd1_eq, gadd_cons, gadd_nil]
  exact ⟨rfl, rfl⟩
theorem cy_m : mdl cyG [(0, 2)] [0, 1, 0] = true := by decide
theorem cy_gn : GN cyG := ⟨by decide, by decide⟩
theorem cy_gl : GL cyG := by
  intro i p hp u hu
  match i with
  | 0 => simp [cyG] at hp; subst hp; simp at hu
  | 1 => simp [cyG] at hp; subst hp; simp at hu
  | 2 => simp [cyG] at hp; subst hp; simp at hu; omega
  | i + 3 => simp [cyG] at hp
theorem cy_no : ¬ Acc (Nx cyG [(0, 2)]) 0 := no_acc ⟨2, (4, 0, 3, [0, 1]), .eq (by simp), rfl, by decide, by simp⟩
theorem cy_var : gvar cyG 0 = some 0 := by decide
theorem cy_vs : vsort cyG = [0] := by decide
theorem nil_gn : GN [] := ⟨by simp [names], fun n hn => by simp [names] at hn⟩
theorem nil_gl : GL [] := fun i p hp => by simp at hp
theorem nil_fin : FinC [] [] := fun v i h => by simp [gvar] at h
set_option maxHeartbeats 4000000 in
theorem awake13 (w : World) : Calls Try.prog 13 #[] w fun e w' => e = .returned (.bool true) ∧ Below w.heap.size w w' := by
  go_enter Try.func13, Try.ntmps13
  go_wp2_with fail
  refine (new_cs w).mono ?_
  rintro e w1 ⟨cb, rfl, hC1, hb1⟩
  obtain ⟨O1, hO1, hC1⟩ := hC1.tight
  have H1 := Lib.hid (And.intro hO1 (And.intro hC1 hb1))
  clear hO1 hC1 hb1
  go_wp2_with fail
  refine (var_any 0 _).mono ?_
  rintro e w2 ⟨rfl, hb2⟩
  dsimp only [tyVal]
  have H2 := Lib.hid hb2
  clear hb2
  go_wp2_with fail
  refine (var_any 0 _).mono ?_
  rintro e w3 ⟨rfl, hb3⟩
  dsimp only [tyVal]
  have H3 := Lib.hid (H2.out.trans (hb3.mono H2.out.size))
  clear hb3
  obtain ⟨w4, hw4⟩ : ∃ w4, w3.alloc (.cells #[.int .i64 1, .int .i64 0, .slice none 0 0, .int .i64 2, .int .i64 0, .slice none 0 0] 28) = w4 := ⟨_, rfl⟩
  have hx4 : w4.heap[w3.heap.size]? = some (.cells #[.int .i64 1, .int .i64 0, .slice none 0 0, .int .i64 2, .int .i64 0, .slice none 0 0] 28) := by rw [← hw4]; exact heap_alloc_new _ _
  have hb4 : Below w3.heap.size w3 w4 := by rw [← hw4]; exact (Below.refl _ _).alloc (Nat.le_refl _) _
  have har := arrow_pair w4 w3.heap.size 2 1 0 2 0 (none, 0, 0) (none, 0, 0) .nil .nil (Array.getElem?_eq_some_iff.1 hx4).1 (Nat.le_refl _) (by unfold maxLen; omega) (cell_of_row _ _ 0 _ _ (0, 0) hx4) (cell_of_row _ _ 1 _ _ (0, 0) hx4) (cell_of_row _ _ 2 _ _ (0, 0) hx4) (cell_of_row _ _ 3 _ _ (0, 0) hx4) (cell_of_row _ _ 4 _ _ (0, 0) hx4) (cell_of_row _ _ 5 _ _ (0, 0) hx4) (no_parts _ _) (no_parts _ _) (by simp [Fo.size])
  have HAR := Lib.hid har
  have H4 := Lib.hid (H3.out.trans (hb4.mono H3.out.size))
  have HW4 := Lib.hid hw4
  clear har hx4 hb4 hw4
  go_wp2_with fail
  rw [HW4.out]
  refine HAR.out.mono ?_
  clear HAR
  rintro e w5 ⟨⟨u1, u2, u3⟩, rfl, hb5, hF5⟩
  dsimp only [tyVal, slv]
  have hb15 : Below w1.heap.size w1 w5 := H4.out.trans (hb5.mono H4.out.size)
  have hC5 := H1.out.2.1.keep (T := fun j => w1.heap.size ≤ j) (Else.of_below hb15) fun j hj => by have := (H1.out.1 j hj).2; omega
  have HEQ := equate_ok hC5 1 0 4 0 (none, 0, 0) (u1, u2, u3) .nil (exP 1 0 2 0) (TyLat.var 0 (by omega) (by decide)) (TyLat.fresh hF5 (fun j hj => by have := (H1.out.1 j hj).2; have := H4.out.size; omega) ⟨rfl, ⟨rfl, trivial, rfl, trivial, trivial⟩, trivial⟩ ⟨by decide, ⟨by decide, trivial, by decide, trivial, trivial⟩, trivial⟩) (by decide) (by omega) (by omega)
  rw [cy_ex.1, cy_ex.2] at HEQ
  dsimp only [tyVal, slv] at HEQ
  have HEQH := Lib.hid HEQ
  have H5 := Lib.hid hb15
  clear HEQ hC5 hF5 hb5 hb15
  go_wp2_with fail
  refine HEQH.out.mono ?_
  clear HEQH
  rintro e w8 ⟨hE8, st8, j8, hs1, hs2, h⟩
  rcases h with ⟨_, hc, _⟩ | ⟨rfl, _, fs8, m8, hC8, hf1, hf2, hj8⟩
  · exact absurd hc (mdl_no cy_m)
  have hd8 : dg cyG.length ≤ 21 := Un.dg_le (by decide)
  have hj9 : j8 ≤ 1000 := by have e : cyG.length = 3 := rfl; rw [e] at hj8; simp only [List.length_nil] at hj8; omega
  have hbn := bnd hd8 hj9
  have hb08 : Below w.heap.size w w8 := (H1.out.2.2.trans (H5.out.mono H1.out.2.2.size)).trans (hE8.below (fun j hj => (H1.out.1 j hj).1) (by have := H5.out.size; have := H1.out.2.2.size; omega))
  have hO8 : ∀ k, (O1 k ∨ w5.heap.size ≤ k) → w.heap.size ≤ k := fun k hk => by
    have := H5.out.size
    have := H1.out.2.2.size
    rcases hk with hk | hk
    · exact (H1.out.1 k hk).1
    · omega
  have HFI := Lib.hid (finite_cs hC8 (by omega) (by decide) cy_gn cy_gl)
  have H8 := Lib.hid (And.intro hb08 (And.intro hO8 (show 0 ≤ fs8 ∧ fs8 ≤ 1000000 from by omega)))
  clear hE8 hs1 hs2 hC8 hf1 hf2 hj8 hd8 hj9 hbn hb08 hO8
  go_wp2_with fail
  refine HFI.out.mono ?_
  clear HFI
  rintro e w9 ⟨b9, k9, rfl, hb9, hk9, hC9, hE9⟩
  obtain rfl : b9 = false := by
    cases b9 with
    | false => rfl
    | true => exact absurd (hb9.1 rfl 0 0 cy_var) cy_no
  have e3 : cyG.length = 3 := rfl
  have hb09 : Below w.heap.size w w9 := H8.out.1.trans (hE9.below H8.out.2.1 H8.out.1.size)
  have HCY := Lib.hid (cyclic_cs hC9 (by have := H8.out.2.2; rw [e3] at hk9; omega) (by decide) cy_gn)
  have H9 := Lib.hid hb09
  clear hb9 hk9 hC9 hE9 hb09 e3
  go_wp2_with fail
  refine HCY.out.mono ?_
  clear HCY
  rintro e w10 ⟨bb, v10, k10, rfl, hr10, hbb, hk10, hC10, hE10⟩
  have hb0 : bb 0 = true := (hbb 0 0 cy_var).2 cy_no
  have hfl : (vsort cyG).filter bb = [0] := by rw [cy_vs]; simp [hb0]
  rw [hfl] at hr10
  have hb010 : Below w.heap.size w w10 := H9.out.trans (hE10.below H8.out.2.1 H9.out.size)
  obtain ⟨A10, c10, rfl, _, _⟩ := Un.own_form hr10
  have hR10 : Rd (w10.alloc (.cells #[.int .i64 0] 3)) 1 (.slice A10 1 c10) ([0] : List Int).length (ints [0]) := (Rd.of_own hr10).below ((Below.refl _ _).alloc (Nat.le_refl _) _)
  have HIN := Lib.hid (rints_any [0] [0] (.slice A10 1 c10) (.slice (some ⟨w10.heap.size, 0, none⟩) 1 1) (w10.alloc (.cells #[.int .i64 0] 3)) hR10 (rd_new w10 [.int .i64 0] _ 1 1 rfl (by unfold maxLen; omega)) (by simp) (by simp))
  have H10 := Lib.hid (show Below w.heap.size w (w10.alloc (.cells #[.int .i64 0] 3)) from hb010.alloc hb010.size _)
  clear hr10 hbb hk10 hC10 hE10 hb0 hfl hb010 hR10
  simp only [List.length_singleton]
  go_wp2_with fail
  refine HIN.out.mono ?_
  clear HIN
  rintro e w11 ⟨rfl, hb11⟩
  have H11 := Lib.hid (H10.out.trans (hb11.mono H10.out.size))
  clear hb11
  go_wp2_with fail
  refine (new_cs w11).mono ?_
  rintro e w12 ⟨cb2, rfl, hC12, hb12⟩
  have HF2 := Lib.hid (finite_cs hC12 (by omega) (by decide) nil_gn nil_gl)
  have H12 := Lib.hid (H11.out.trans (hb12.mono H11.out.size))
  clear hC12
  go_wp2_with fail
  refine HF2.out.mono ?_
  clear HF2
  rintro e w13 ⟨b13, k13, rfl, hb13, _, _, hE13⟩
  obtain rfl : b13 = true := hb13.2 nil_fin
  have H13 := Lib.hid (H12.out.trans (hE13.below (B := w.heap.size) (fun k hk => Nat.le_trans H11.out.size hk) H12.out.size))
  clear hb13 hE13 hb12
  go_wp2_with fail
  exact bodyPost_ret (results_tmp rfl _ _ _) rfl ⟨rfl, H13.out⟩
end Go.Proofs.Ytojgiienohpaiaa
/- UnifyNone, walked, given what awake owes. -/
namespace Go.Proofs.Ytojgiienohpaiaa
open Go.RowKit
open Un (Else)
set_option maxRecDepth 100000
end Go.Proofs.Ytojgiienohpaiaa
/- UnifyNone, whole. -/
namespace Go.Proofs.Ytojgiienohpaiaa
open Go.RowKit
theorem i64_wf {n : Int} (h : (Lit.int .i64 n).wf = true) : (Lit.int .i64 n).wf = true := h
end Go.Proofs.Ytojgiienohpaiaa
/- CycleNone, walked. -/
namespace Go.Proofs.Ytojgiienohpaiaa
open Go.RowKit Go.Shelf
open Un (Else StM rowI UFo own_else dg swp wp_world paint cnt Rings)
set_option maxRecDepth 100000
section CyKs
variable {w : World} {p : Option Addr} {v : Int}
/-- Of a variable that isn't there nothing is told. -/
theorem measure_none (B : Nat) (hB : B ≤ w.heap.size) (c : Option Addr) (r : Int) (hP : ∀ W, Below w.heap.size w W → Calls Try.prog 39 #[.pointer p, .int .i64 v] W fun x W' => x = .returned (.tuple #[.agg #[.pointer c, .int .i64 r], .bool false]) ∧ Below B W W') (gf : FuncId) :
    Calls Try.prog 27 #[.pointer p, .int .i64 v, .func (.func gf) #[] #[]] w fun x w' => x = .returned (.tuple #[.int .i64 0, .bool false]) ∧ Below B w w' := by
  obtain ⟨w1, hw1⟩ : ∃ w1, w.alloc (.cells #[.func (.func gf) #[] #[]] 67) = w1 := ⟨_, rfl⟩
  have hb1 : Below w.heap.size w w1 := by rw [← hw1]; exact (Below.refl _ _).alloc (Nat.le_refl _) _
  have HP := Lib.hid (hP w1 hb1)
  have H1 := Lib.hid (And.intro hb1 hB)
  have HW1 := Lib.hid hw1
  clear hP hb1 hw1
  go_enter Try.func27, Try.ntmps27
  go_wp2_with fail
  rw [HW1.out]
  refine HP.out.mono ?_
  clear HP
  rintro x w2 ⟨rfl, hb2⟩
  have H2 := Lib.hid hb2
  clear hb2
  go_wp2_with fail
  exact bodyPost_ret (results_tmp2 rfl _ _ _) rfl ⟨rfl, ((H1.out.1.mono H1.out.2).trans H2.out).alloc (Nat.le_trans H1.out.2 (Nat.le_trans H1.out.1.size H2.out.size)) _⟩
theorem depth_none (B : Nat) (hB : B ≤ w.heap.size) (c : Option Addr) (r : Int) (hP : ∀ W, Below w.heap.size w W → Calls Try.prog 39 #[.pointer p, .int .i64 v] W fun x W' => x = .returned (.tuple #[.agg #[.pointer c, .int .i64 r], .bool false]) ∧ Below B W W') :
    Calls Try.prog 10 #[.pointer p, .int .i64 v] w fun x w' => x = .returned (.tuple #[.int .i64 0, .bool false]) ∧ Below B w w' := by
  have HM := Lib.hid (measure_none B hB c r hP 28)
  clear hP
  go_enter Try.func10, Try.ntmps10
  go_wp2_with fail
  refine HM.out.mono ?_
  rintro x w2 ⟨rfl, hb2⟩
  have H2 := Lib.hid hb2
  clear hb2
  go_wp2_with fail
  exact bodyPost_ret (results_tmp2 rfl _ _ _) rfl ⟨rfl, H2.out⟩
theorem size_none (B : Nat) (hB : B ≤ w.heap.size) (c : Option Addr) (r : Int) (hP : ∀ W, Below w.heap.size w W → Calls Try.prog 39 #[.pointer p, .int .i64 v] W fun x W' => x = .returned (.tuple #[.agg #[.pointer c, .int .i64 r], .bool false]) ∧ Below B W W') :
    Calls Try.prog 11 #[.pointer p, .int .i64 v] w fun x w' => x = .returned (.tuple #[.int .i64 0, .bool false]) ∧ Below B w w' := by
  have HM := Lib.hid (measure_none B hB c r hP 29)
  clear hP
  go_enter Try.func11, Try.ntmps11
  go_wp2_with fail
  refine HM.out.mono ?_
  rintro x w2 ⟨rfl, hb2⟩
  have H2 := Lib.hid hb2
  clear hb2
  go_wp2_with fail
  exact bodyPost_ret (results_tmp2 rfl _ _ _) rfl ⟨rfl, H2.out⟩
end CyKs
theorem part_new {w : World} {cb B : Nat} {st fs : Int} (h : CsM (fun k => B ≤ k) w cb [] [] st fs 0) (hB : B ≤ w.heap.size) (hf : 0 ≤ fs ∧ fs ≤ 1000000) (v : Int) (hv : (Lit.int .i64 v).wf = true) :
    Calls Try.prog 39 #[.pointer (some ⟨cb, 0, none⟩), .int .i64 v] w fun x W' => x = .returned (.tuple #[.agg #[.pointer none, .int .i64 0], .bool false]) ∧ Below B w W' := by
  obtain ⟨⟨A, kn, nx, col, ro, hC, _⟩, _⟩ := h
  refine (cpart_cl hC (by omega) v hv (fun i hi => gvar_lt hi)).mono ?_
  rintro x w' ⟨k, rfl, _, _, hE⟩
  exact ⟨rfl, hE.below (fun k hk => hC.own k (.inr (.inl hk))) hB⟩
set_option maxHeartbeats 4000000 in
theorem cnone_law (w : World) (v : Int) (hv : (Lit.int .i64 v).wf = true) : Calls Try.prog 5 #[.int .i64 v] w fun e w' => e = .returned (.bool true) ∧ Below w.heap.size w w' := by
  have HV := Lib.hid hv
  clear hv
  go_enter Try.func5, Try.ntmps5
  go_wp2_with fail
  refine (depth_none (p := none) w.heap.size (Nat.le_refl _) none 0 (fun W hW => (cpart_none W v).mono fun x W' ⟨h1, h2⟩ => ⟨h1, h2.mono hW.size⟩)).mono ?_
  rintro x w1 ⟨rfl, hb1⟩
  have H1 := Lib.hid hb1
  clear hb1
  go_wp2_with fail
  refine (size_none (p := none) w.heap.size H1.out.size none 0 (fun W hW => (cpart_none W v).mono fun x W' ⟨h1, h2⟩ => ⟨h1, h2.mono (Nat.le_trans H1.out.size hW.size)⟩)).mono ?_
  rintro x w2 ⟨rfl, hb2⟩
  have H2 := Lib.hid (H1.out.trans hb2)
  clear hb2
  go_wp2_with fail
  refine (new_cs w2).mono ?_
  rintro x w3 ⟨cb, rfl, hC, hb3⟩
  have H3 := Lib.hid (H2.out.trans (hb3.mono H2.out.size))
  have HD := Lib.hid (depth_none (w := w3) (p := some ⟨cb, 0, none⟩) (v := v) w2.heap.size hb3.size none 0 (fun W hW => part_new (hC.keep (T := fun _ => False) (Else.of_below hW) fun _ _ h => h) (Nat.le_trans hb3.size hW.size) (by omega) v HV.out))
  clear hb3 hC
  go_wp2_with fail
  refine HD.out.mono ?_
  clear HD
  rintro x w4 ⟨rfl, hb4⟩
  have H4 := Lib.hid (H3.out.trans (hb4.mono H2.out.size))
  clear hb4
  go_wp2_with fail
  refine (count_empty (p := none) 10 (by omega) (err_none _) (fun W hW => (cvars_none W).mono fun x W' ⟨h1, h2⟩ => ⟨h1, by rw [h2]; exact Below.refl _ _⟩)).mono ?_
  rintro x w5 ⟨rfl, hb5⟩
  have H5 := Lib.hid (H4.out.trans (hb5.mono H4.out.size))
  clear hb5
  go_wp2_with fail
  refine (finite_empty (p := none) 10 (by omega) (err_none _) (fun W hW => (cvars_none W).mono fun x W' ⟨h1, h2⟩ => ⟨h1, by rw [h2]; exact Below.refl _ _⟩)).mono ?_
  rintro x w6 ⟨rfl, hb6⟩
  have H6 := Lib.hid (H5.out.trans (hb6.mono H5.out.size))
  clear hb6
  go_wp2_with fail
  refine (cyclic_empty (p := none) (fun W hW => (cvars_none W).mono fun x W' ⟨h1, h2⟩ => ⟨h1, by rw [h2]; exact Below.refl _ _⟩)).mono ?_
  rintro x w7 ⟨rfl, hb7⟩
  have H7 := Lib.hid (H6.out.trans (hb7.mono H6.out.size))
  clear hb7
  go_wp2_with fail
  refine (awake13 _).mono ?_
  rintro x w8 ⟨rfl, hb8⟩
  have H8 := Lib.hid (H7.out.trans (hb8.mono H7.out.size))
  clear hb8
  go_wp2_with fail
  exact bodyPost_ret (results_tmp rfl _ _ _) rfl ⟨rfl, H8.out⟩
end Go.Proofs.Ytojgiienohpaiaa
/- The classes of equations, made; whether they are finite. -/
namespace Go.Proofs.Ytojgiienohpaiaa
open Go.RowKit Go.Shelf
open Un (Else StM rowI UFo own_else dg swp wp_world paint cnt Rings)
set_option maxRecDepth 100000
theorem gnode_lt (G : List Gn) (k n : Int) (P : List Nat) : (gnode G k n P).2 < (gnode G k n P).1.length := by
  unfold gnode
  split
  · rename_i i h
    split at h
    · exact gvar_lt h
    · cases h
  · simp
/-- Parts stand ahead, whatever is added. -/
theorem gadd_gl (F : Fo) : ∀ G, GL G → GL (gadd G F).1 ∧ ∀ u ∈ (gadd G F).2, u < (gadd G F).1.length := by
  induction F with
  | nil => intro G h; rw [gadd_nil]; exact ⟨h, fun u hu => by simp at hu⟩
  | cons k n u ps r i1 i2 =>
    intro G h
    obtain ⟨a1, a2⟩ := i1 G h
    have b1 := gnode_GL (k := k) (n := n) a1 a2
    have b2 := gnode_lt (gadd G ps).1 k n (gadd G ps).2
    rw [← gadd1_eq] at b1 b2
    obtain ⟨c1, c2⟩ := i2 _ b1
    rw [gadd_cons]
    refine ⟨c1, fun x hx => ?_⟩
    rcases List.mem_cons.1 hx with rfl | hx
    · obtain ⟨X, hX, _⟩ := gadd_pre r (gadd1 G k n ps).1
      rw [hX, List.length_append]
      omega
    · exact c2 x hx
theorem gadd1_gl {G : List Gn} (h : GL G) (k n : Int) (ps : Fo) : GL (gadd1 G k n ps).1 := by
  have := gadd_gl ps G h
  rw [gadd1_eq]
  exact gnode_GL this.1 this.2
theorem fold_gl (m : List Eqn) : ∀ s : Sys, GL s.1 → GL (m.foldl stp s).1 := by
  induction m with
  | nil => intro s h; exact h
  | cons x m ih => intro s h; exact ih _ (gadd1_gl (gadd1_gl h _ _ _) _ _ _)
theorem cls_gl (l : List Eqn) : GL (cls l).1 := fold_gl l _ nil_gl
theorem esz_at {l : List Eqn} {j : Nat} (hj : j < l.length) : esz (l.take j) + sz1 l[j] ≤ esz l := by
  rw [← esz_step l j hj]
  exact esz_take l (j + 1)
theorem vars_clash {w : World} {cb : Nat} {st : Int} (h : CxM w cb st) : Calls Try.prog 38 #[.pointer (some ⟨cb, 0, none⟩)] w fun e w' => e = .returned (.slice none 0 0) ∧ Below w.heap.size w w' := by
  have c2 : w.cell? ⟨cb, 2, none⟩ = some (.pointer none) := cell_of_row w cb 2 _ _ (0, 0) h
  have hl := (Array.getElem?_eq_some_iff.1 h).1
  clear h
  go_enter Try.func38, Try.ntmps38
  go_wp2_with fail
  refine (vars_none _).mono ?_
  rintro e w' ⟨rfl, hb⟩
  have HB := Lib.hid hb
  clear hb
  go_wp2_with fail
  exact bodyPost_ret (results_tmp rfl _ _ _) rfl ⟨rfl, HB.out⟩
section CyLs
variable {O : Nat → Prop} {w : World} {cb b : Nat} {s : Sys}
/-- Whether the classes of equations are finite. -/
theorem finite_clo (h : Clo O w cb s b) (hb : b ≤ 49) (hl : s.1.length ≤ 8000) (hgn : GN s.1) (hgl : GL s.1) :
    Calls Try.prog 12 #[.pointer (some ⟨cb, 0, none⟩)] w fun x w' => (∃ t : Bool, x = .returned (.bool t) ∧ (t = true ↔ ¬ Clash s.1 s.2 ∧ FinC s.1 s.2)) ∧ Clo O w' cb s (b + 1) ∧ Else O w w' := by
  rcases h with ⟨st, fs, m, hC, h1, h2, h3, h4⟩ | ⟨hc, hO, hlt, st, hx⟩
  · refine (finite_cs hC (by omega) (by omega) hgn hgl).mono ?_
    rintro x w' ⟨t, k, rfl, ht, hk, hC', hE⟩
    exact ⟨⟨t, rfl, ht.trans ⟨fun hf => ⟨hC.noClash, hf⟩, fun hf => hf.2⟩⟩, .inl ⟨st, _, m, hC', h1, by omega, by omega, by push_cast; omega⟩, hE⟩
  · have hV : ∀ W, Below w.heap.size w W → Calls Try.prog 38 #[.pointer (some ⟨cb, 0, none⟩)] W fun x W' => x = .returned (.slice none 0 0) ∧ Below W.heap.size W W' := fun W hW => vars_clash ((hW.block _ hlt).trans hx)
    refine (finite_empty 7 (by omega) (err_cx hx) hV).mono ?_
    rintro x w' ⟨rfl, hB⟩
    exact ⟨⟨false, rfl, ⟨(fun h => by cases h), (fun h => absurd hc h.1)⟩⟩, .inr ⟨hc, hO, Nat.lt_of_lt_of_le hlt hB.size, st, (hB.block _ hlt).trans hx⟩, Else.of_below hB⟩
set_option maxHeartbeats 4000000 in
theorem made_any (w : World) (L : List Eqn) (v : Value) (h : EqV w.heap.size w L v) (hw : EqW L) (hr : ∀ x ∈ L, rtE x = true) (hn : L.length ≤ 40) (hz : esz L ≤ 400) :
    Calls Try.prog 16 #[v] w fun x w' => ∃ cb O, x = .returned (.pointer (some ⟨cb, 0, none⟩)) ∧ Clo O w' cb (cls L) L.length ∧ (∀ k, O k → w.heap.size ≤ k ∧ k < w'.heap.size) ∧ Below w.heap.size w w' := by
  obtain ⟨A3, c3, rfl⟩ := h.form
  have HE := Lib.hid h
  have HW := Lib.hid (And.intro hw (And.intro hr hz))
  clear h hw hr hz
  go_enter Try.func16, Try.ntmps16
  go_wp2_with fail
  refine (new_cs w).mono ?_
  rintro e w5 ⟨c, rfl, hC5, hb5⟩
  obtain ⟨O5, hO5, hC5⟩ := hC5.tight
  have H5 := Lib.hid (show ∃ O, Clo O w5 c (cls []) 0 ∧ (∀ k, O k → w.heap.size ≤ k ∧ k < w5.heap.size) ∧ Below w.heap.size w w5 from ⟨O5, .inl ⟨0, 0, 0, hC5, by omega, by omega, by omega, by omega⟩, hO5, hb5⟩)
  clear hO5 hC5 hb5
  go_wp2_with fail
  go_loopw [4] (fun s wr => ∃ j : Nat, s = .int .i64 (j : Nat) ∧ j ≤ L.length ∧ ∃ O, Clo O wr c (cls (L.take j)) j ∧ (∀ k, O k → w.heap.size ≤ k ∧ k < wr.heap.size) ∧ Below w.heap.size w wr) (fun s _ => L.length - (intOf s).toNat)
  case atStart => exact ⟨0, rfl, Nat.zero_le _, H5.out⟩
  case round =>
    obtain ⟨j, rfl, hj, O, hC, hO, hb⟩ := hrel
    have HT := Lib.hid (And.intro hC (And.intro hO hb))
    clear hC hO hb H5
    by_cases hjl : j < L.length
    · have f1 : decide ((j : Int) < (L.length : Int)) = true := decide_eq_true (by omega)
      obtain ⟨b, off, rfl, hat, hty⟩ : ∃ b off, A3 = some ⟨b, off, none⟩ ∧ (∀ W, Below w.heap.size w W → EqAt W b (off + j * 8) L[j]) ∧ (∀ W, Below w.heap.size w W → EqT w.heap.size W L[j]) := by
        obtain ⟨b, off, hA, _, _⟩ := HE.out.at j hjl
        refine ⟨b, off, hA, fun W hb => ?_, fun W hb => (HE.out.below hb).ty j hjl⟩
        obtain ⟨b', off', hA', _, hat⟩ := (HE.out.below hb).at j hjl
        rw [hA] at hA'
        cases hA'
        exact hat
      obtain ⟨x, hx⟩ : ∃ x, L[j] = x := ⟨_, rfl⟩
      have hxw := HW.out.1 _ (List.getElem_mem hjl)
      have hxr := HW.out.2.1 _ (List.getElem_mem hjl)
      have hxs := esz_at hjl
      rw [hx] at hat hty hxw hxr hxs
      obtain ⟨⟨k0, n0, ⟨u1, u2, u3⟩, F⟩, ⟨k1, n1, ⟨v1, v2, v3⟩, F'⟩, a0, a1⟩ := x
      have EX : Hid (∀ W, Below w.heap.size w W → (W.cell? ⟨b, off + j * 8, none⟩ = some (.int .i64 k0) ∧ W.cell? ⟨b, off + j * 8 + 1, none⟩ = some (.int .i64 n0) ∧ W.cell? ⟨b, off + j * 8 + 2, none⟩ = some (.slice u1 u2 u3)) ∧ W.cell? ⟨b, off + j * 8 + 3, none⟩ = some (.int .i64 k1) ∧ W.cell? ⟨b, off + j * 8 + 3 + 1, none⟩ = some (.int .i64 n1) ∧ W.cell? ⟨b, off + j * 8 + 3 + 2, none⟩ = some (.slice v1 v2 v3)) := Lib.hid fun W hW => by
        obtain ⟨q0, q1, q2, q3, q4, q5, _, _⟩ := hat W hW
        exact ⟨⟨q0, q1, q2⟩, q3, q4, q5⟩
      have hd1 : Below w.heap.size w wr.drew := HT.out.2.2.trans ((Below.refl _ wr).drew.mono HT.out.2.2.size)
      have hcl := HT.out.1.keep (T := fun _ => False) (Else.of_below (Below.refl _ wr).drew) fun _ _ e => e
      have hr' := hxr
      unfold rtE at hr'
      rw [Bool.and_eq_true] at hr'
      have ht := hty _ hd1
      have HEQ := equate_clo hcl ((k0, n0, (u1, u2, u3), F), (k1, n1, (v1, v2, v3), F'), a0, a1) (TyLat.low ht.1 (fun k hk => (HT.out.2.1 k hk).1) hd1.size ⟨hxw.1.1, hxw.1.2, trivial⟩ (rt1_right hr'.1 (TyV.len ht.1))) (TyLat.low ht.2 (fun k hk => (HT.out.2.1 k hk).1) hd1.size ⟨hxw.2.1, hxw.2.2, trivial⟩ (rt1_right hr'.2 (TyV.len ht.2))) (by have h1 := cls_len (L.take j); have h2 := HW.out.2.2; omega) (by omega)
      have HEQH := Lib.hid HEQ
      dsimp only [t1V, tyVal, slv] at HEQH
      have HX := Lib.hid hx
      have HJL := Lib.hid hjl
      clear HEQ hat hty hxw hxr hxs hr' ht hx hcl
      go_wp2_with fail
      have hS : Below w.heap.size w wr.drew := hd1
      clear hd1
      refine wp_region_held (S := (fun W => Below w.heap.size w W)) (by kernel_rfl) ?_
      change wpAnyH _ _ _ _ _ 12 (List.replicate 12 false).toArray _ wr.drew
      simp only [List.replicate_succ, List.replicate_zero]
      refine any_take (i := 0) (some 12) (.pointer (some ⟨c, 0, none⟩)) rfl (by rfl) (by kernel_rfl) (by kernel_rfl) (by kernel_rfl) (fun _ _ _ h => h) (Or.inl ⟨by kernel_rfl, (fun W hw => by clear hw; go_simp)⟩) hS ?_
      simp only [Act.put, List.setIfInBounds_toArray, List.set_cons_zero, List.set_cons_succ]
      refine any_take (i := 1) (some 13) (.slice (some ⟨b, off, none⟩) L.length c3) rfl (by rfl) (by kernel_rfl) (by kernel_rfl) (by kernel_rfl) (fun _ _ _ h => h) (Or.inl ⟨by kernel_rfl, (fun W hw => by clear hw; go_simp)⟩) hS ?_
      simp only [Act.put, List.setIfInBounds_toArray, List.set_cons_zero, List.set_cons_succ]
      refine any_take (i := 2) (some 14) (.int .i64 (j : Nat)) rfl (by rfl) (by kernel_rfl) (by kernel_rfl) (by kernel_rfl) (fun _ _ _ h => h) (Or.inl ⟨by kernel_rfl, (fun W hw => by clear hw; go_simp)⟩) hS ?_
      simp only [Act.put, List.setIfInBounds_toArray, List.set_cons_zero, List.set_cons_succ]
      refine any_take (i := 3) (some 15) (.pointer (some ⟨b, off + j * 8, none⟩)) rfl (by rfl) (by kernel_rfl) (by kernel_rfl) (by kernel_rfl) (fun _ _ _ h => h) (Or.inl ⟨by kernel_rfl, (fun W hw => by clear hw; go_simp)⟩) hS ?_
      simp only [Act.put, List.setIfInBounds_toArray, List.set_cons_zero, List.set_cons_succ]
      refine any_take (i := 4) (some 16) (.pointer (some ⟨b, off + j * 8, none⟩)) rfl (by rfl) (by kernel_rfl) (by kernel_rfl) (by kernel_rfl) (fun _ _ _ h => h) (Or.inl ⟨by kernel_rfl, (fun W hw => by clear hw; go_simp)⟩) hS ?_
      simp only [Act.put, List.setIfInBounds_toArray, List.set_cons_zero, List.set_cons_succ]
      refine any_take (i := 5) (some 17) (.agg #[.int .i64 k0, .int .i64 n0, .slice u1 u2 u3]) rfl (by rfl) (by kernel_rfl) (by kernel_rfl) (by kernel_rfl) (fun _ _ _ h => h) (Or.inl ⟨by kernel_rfl, (fun W hw => by obtain ⟨⟨n0_, n1_, n2_⟩, m0_, m1_, m2_⟩ := EX.out W hw; clear hw; go_simp)⟩) hS ?_
      simp only [Act.put, List.setIfInBounds_toArray, List.set_cons_zero, List.set_cons_succ]
      refine any_take (i := 6) (some 18) (.slice (some ⟨b, off, none⟩) L.length c3) rfl (by rfl) (by kernel_rfl) (by kernel_rfl) (by kernel_rfl) (fun _ _ _ h => h) (Or.inl ⟨by kernel_rfl, (fun W hw => by clear hw; go_simp)⟩) hS ?_
      simp only [Act.put, List.setIfInBounds_toArray, List.set_cons_zero, List.set_cons_succ]
      refine any_take (i := 7) (some 19) (.int .i64 (j : Nat)) rfl (by rfl) (by kernel_rfl) (by kernel_rfl) (by kernel_rfl) (fun _ _ _ h => h) (Or.inl ⟨by kernel_rfl, (fun W hw => by clear hw; go_simp)⟩) hS ?_
      simp only [Act.put, List.setIfInBounds_toArray, List.set_cons_zero, List.set_cons_succ]
      refine any_take (i := 8) (some 20) (.pointer (some ⟨b, off + j * 8, none⟩)) rfl (by rfl) (by kernel_rfl) (by kernel_rfl) (by kernel_rfl) (fun _ _ _ h => h) (Or.inl ⟨by kernel_rfl, (fun W hw => by clear hw; go_simp)⟩) hS ?_
      simp only [Act.put, List.setIfInBounds_toArray, List.set_cons_zero, List.set_cons_succ]
      refine any_take (i := 9) (some 21) (.pointer (some ⟨b, off + j * 8 + 3, none⟩)) rfl (by rfl) (by kernel_rfl) (by kernel_rfl) (by kernel_rfl) (fun _ _ _ h => h) (Or.inl ⟨by kernel_rfl, (fun W hw => by clear hw; go_simp)⟩) hS ?_
      simp only [Act.put, List.setIfInBounds_toArray, List.set_cons_zero, List.set_cons_succ]
      refine any_take (i := 10) (some 22) (.agg #[.int .i64 k1, .int .i64 n1, .slice v1 v2 v3]) rfl (by rfl) (by kernel_rfl) (by kernel_rfl) (by kernel_rfl) (fun _ _ _ h => h) (Or.inl ⟨by kernel_rfl, (fun W hw => by obtain ⟨⟨n0_, n1_, n2_⟩, m0_, m1_, m2_⟩ := EX.out W hw; clear hw; go_simp)⟩) hS ?_
      simp only [Act.put, List.setIfInBounds_toArray, List.set_cons_zero, List.set_cons_succ]
      refine wpAnyH_all (rs := [11]) (by kernel_rfl) (by simp) fun q' hq' => ?_
      obtain rfl : q' = 11 := by simpa using hq'
      refine ops_call (d := some 23) rfl (by rfl) (by kernel_rfl) (by go_simp) (HEQH.out.mono ?_)
      rintro e w7 ⟨⟨r7, rfl⟩, hC7, hE7⟩
      clear HEQH
      have hs7 : w.heap.size ≤ wr.drew.heap.size := hS.size
      have hb7 : Below w.heap.size w w7 := hS.trans (hE7.below (fun k hk => (HT.out.2.1 k hk).1) hs7)
      obtain ⟨O7, hO7, hC7⟩ := hC7.tight
      have H7 := Lib.hid (show Clo O7 w7 c (stp (cls (L.take j)) ((k0, n0, (u1, u2, u3), F), (k1, n1, (v1, v2, v3), F'), a0, a1)) (j + 1) ∧ (∀ k, O7 k → w.heap.size ≤ k ∧ k < w7.heap.size) ∧ Below w.heap.size w w7 from ⟨hC7, fun k hk => ⟨by
        rcases (hO7 k hk).1 with h1 | h1
        · exact (HT.out.2.1 k h1).1
        · omega, (hO7 k hk).2⟩, hb7⟩)
      clear hO7 hC7 hE7 hs7
      refine ⟨_, rfl, hb7, ?_⟩
      simp only [Act.put, List.setIfInBounds_toArray, List.set_cons_zero, List.set_cons_succ]
      refine wpAnyH_done (by kernel_rfl) ?_ _
      clear hS hb7 EX
      go_wp2_with fail
      go_roundw
      case rel =>
        refine ⟨j + 1, by go_num, HJL.out, O7, ?_, H7.out.2⟩
        rw [cls_step L j HJL.out, HX.out]
        exact H7.out.1
      case measure => have := HJL.out; simp [intOf]; omega
    · have f1 : decide ((j : Int) < (L.length : Int)) = false := decide_eq_false (by omega)
      have hje : j = L.length := by omega
      have HJE := Lib.hid hje
      clear hje
      go_wp2_with fail
      refine bodyPost_ret (results_tmp rfl _ _ _) rfl ⟨c, O, rfl, ?_, HT.out.2⟩
      have h := HT.out.1
      rw [HJE.out, List.take_length] at h
      exact h
end CyLs
end Go.Proofs.Ytojgiienohpaiaa
