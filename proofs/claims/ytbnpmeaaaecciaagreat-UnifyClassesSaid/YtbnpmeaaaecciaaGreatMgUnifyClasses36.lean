/- Texts of one proof, one behind the other. -/
import Derived.Test.YtbnpmeaaaecciaaGreatMgUnifyClasses31
import Derived.Test.YtbnpmeaaaecciaaGreatMgUnifyClasses33
import Derived.Test.YtbnpmeaaaecciaaGreatMgUnifyClasses35
import Derived.Test.YtbnpmeaaaecciaaGreatMgUnifyClasses34
import Derived.IntWalk
/- unify: the answer's Kind and Class, walked; what they say. -/
namespace Go.Proofs.YtbnpmeaaaecciaaGreat
open Go.RowKit
attribute [local go_sem] Oper.semAt_some
attribute [local go_sem ↓] builtin_app
open Un (rowI rowI_get own_shape paint)
set_option maxRecDepth 100000
/-- The kind of what a node's color has, by colors. -/
def RKind (G : List Gn) (c : Nat → Nat) (i : Nat) (r : Int) : Prop :=
  (∃ (k : Nat) (p : Gn), G[k]? = some p ∧ c k = c i ∧ p.1 ≠ 1 ∧ r = p.1) ∨ (r = 0 ∧ ∀ (k : Nat) (p : Gn), G[k]? = some p → c k = c i → p.1 = 1)
set_option maxHeartbeats 4000000 in
theorem rkind_any (w : World) (M : List Rm) (vm vs : Value) (c : Nat → Nat) (B : Nat) (hM : Rd w 4 vm M.length (M.flatMap rmC)) (hs : w.ownsRow B 3 1 vs M.length (rowI M.length c)) (hl : M.length ≤ 1000000) (i : Nat) (hi : i < M.length) :
    Calls Tryz.prog 24 #[.agg #[vm, vs], .int .i64 (i : Nat)] w fun e w' => ∃ r : Int, e = .returned (.int .i64 r) ∧ RKind (gM M) c i r ∧ Below w.heap.size w w' := by
  obtain ⟨A, c0, rfl⟩ := hM.form
  obtain ⟨q, hq⟩ : ∃ q, M.length = q := ⟨_, rfl⟩
  rw [hq] at hl hi hs ⊢
  obtain ⟨g, cv, rfl, _, hgl⟩ := own_shape hs (by omega)
  obtain ⟨W0, hW0⟩ : ∃ W0, w.alloc (.cells #[.slice A q c0, .slice (some ⟨g, 0, none⟩) q cv] 44) = W0 := ⟨_, rfl⟩
  have hb0 : Below w.heap.size w W0 := by rw [← hW0]; exact (Below.refl _ _).alloc (Nat.le_refl _) _
  have hx0 : W0.heap[w.heap.size]? = some (Obj.cells #[.slice A q c0, .slice (some ⟨g, 0, none⟩) q cv] 44) := by rw [← hW0]; exact heap_alloc_new w _
  have hl0 : w.heap.size < W0.heap.size := (Array.getElem?_eq_some_iff.1 hx0).1
  have x0 : W0.cell? ⟨w.heap.size, 0, none⟩ = some (.slice A q c0) := cell_of_row W0 _ 0 _ _ (0, 0) hx0
  have x1 : W0.cell? ⟨w.heap.size, 1, none⟩ = some (.slice (some ⟨g, 0, none⟩) q cv) := cell_of_row W0 _ 1 _ _ (0, 0) hx0
  have HWH := whole_any W0 M (.slice A q c0) (.slice (some ⟨g, 0, none⟩) q cv) c B (by have := hM.below hb0; rwa [hq] at this ⊢) (by rw [hq]; exact own_below hs hb0) (by rw [hq]; exact hl) i (by rw [hq]; exact hi)
  have HM := Lib.hid (And.intro hq hM)
  have HS := Lib.hid hs
  have HB0 := Lib.hid hb0
  have HW := Lib.hid HWH
  clear hM hs hx0 hb0 hq HWH
  go_enter Tryz.func24, Tryz.ntmps24
  go_wp2_with fail
  refine HW.out.mono ?_
  rintro e w1 ⟨r, rfl, hr, hb1⟩
  have y0 : w1.cell? ⟨w.heap.size, 0, none⟩ = some (.slice A q c0) := (hb1.cell (p := ⟨w.heap.size, 0, none⟩) hl0).trans x0
  have HB1 := Lib.hid (HB0.out.trans (hb1.mono (Nat.le_of_lt hl0)))
  clear HW hb1 hW0 x0 x1
  rcases hr with ⟨k, p, rfl, hp, hc, p1⟩ | ⟨rfl, hn⟩
  · have hkq : k < q := by have := (List.getElem?_eq_some_iff.1 hp).1; simp [gM] at this; have := HM.out.1; omega
    have hkM : k < M.length := by rw [HM.out.1]; exact hkq
    obtain ⟨b1, o1, cap1, hv1, _, _, hlt1, hc1⟩ := HM.out.2.2.resolve_left (by rintro ⟨h, _⟩; omega)
    injection hv1 with hA1 _ hcc1
    subst hA1; subst hcc1
    obtain ⟨p0, -, -, -⟩ := rmC_at M k hkM
    have hgk : (gM M)[k]? = some (rG M[k].1) := by simp [gM, hkM]
    rw [hp] at hgk
    obtain ⟨x, hx⟩ : ∃ x, p.1 = x := ⟨_, rfl⟩
    have hxx : M[k].1.1 = x := by rw [← hx, Option.some.inj hgk]; rfl
    rw [hxx] at p0
    have z0 : w1.cell? ⟨b1, o1 + k * 4, none⟩ = some (.int .i64 x) := (HB1.out.cell (p := ⟨b1, o1 + k * 4, none⟩) hlt1).trans (hc1 _ _ p0)
    have HP := Lib.hid (And.intro hp (And.intro hc (And.intro p1 hx)))
    clear hp hc p1 hx hgk hxx p0 hc1 hkM
    have t1 : decide (0 ≤ (k : Int)) = true := decide_eq_true (by omega)
    go_wp2_with fail
    go_ret
    exact ⟨x, rfl, .inl ⟨k, p, HP.out.1, HP.out.2.1, HP.out.2.2.1, HP.out.2.2.2.symm⟩, HB1.out⟩
  · have HN := Lib.hid hn
    clear hn
    go_wp2_with fail
    go_ret
    exact ⟨0, rfl, .inr ⟨rfl, HN.out⟩, HB1.out⟩
/-- The variables of a color. -/
def selC (G : List Gn) (c : Nat → Nat) (i : Nat) (a : Int) : Bool := c (ivar G a).toNat == c i
theorem ivar_of {G : List Gn} {a : Int} (h : a ∈ vsort G) : ∃ j, gvar G a = some j ∧ ivar G a = (j : Nat) ∧ j < G.length := by
  have hp := (vfold G [] List.Pairwise.nil).2
  have hm : a ∈ names G := by have := hp.mem_iff.1 h; simpa using this
  obtain ⟨j, hj⟩ := Option.isSome_iff_exists.1 ((gvar_names G a).2 hm)
  exact ⟨j, hj, by rw [ivar, hj], gvar_lt hj⟩
set_option maxHeartbeats 4000000 in
theorem rclass_any (w : World) (M : List Rm) (vm vs : Value) (c : Nat → Nat) (B : Nat) (hM : Rd w 4 vm M.length (M.flatMap rmC)) (hs : w.ownsRow B 3 1 vs M.length (rowI M.length c)) (hl : M.length ≤ 100000) (i : Nat) (hi : i < M.length) :
    Calls Tryz.prog 25 #[.agg #[vm, vs], .int .i64 (i : Nat)] w fun e w' => ∃ v', e = .returned v' ∧ Rd w' 1 v' ((vsort (gM M)).filter (selC (gM M) c i)).length (ints ((vsort (gM M)).filter (selC (gM M) c i))) ∧ Below w.heap.size w w' := by
  obtain ⟨A, c0, rfl⟩ := hM.form
  have hgM : (gM M).length = M.length := by simp [gM]
  obtain ⟨q, hq⟩ : ∃ q, M.length = q := ⟨_, rfl⟩
  rw [hq] at hl hi hs hgM ⊢
  obtain ⟨g, cv, rfl, _, hgl⟩ := own_shape hs (by omega)
  obtain ⟨W0, hW0⟩ : ∃ W0, w.alloc (.cells #[.slice A q c0, .slice (some ⟨g, 0, none⟩) q cv] 44) = W0 := ⟨_, rfl⟩
  have hb0 : Below w.heap.size w W0 := by rw [← hW0]; exact (Below.refl _ _).alloc (Nat.le_refl _) _
  have hx0 : W0.heap[w.heap.size]? = some (Obj.cells #[.slice A q c0, .slice (some ⟨g, 0, none⟩) q cv] 44) := by rw [← hW0]; exact heap_alloc_new w _
  have hl0 : w.heap.size < W0.heap.size := (Array.getElem?_eq_some_iff.1 hx0).1
  have x0 : W0.cell? ⟨w.heap.size, 0, none⟩ = some (.slice A q c0) := cell_of_row W0 _ 0 _ _ (0, 0) hx0
  have HVS := rvars11 W0 (.slice A q c0) M (by have := hM.below hb0; rwa [hq] at this ⊢) (by rw [hq]; exact hl)
  have HM := Lib.hid (And.intro hq hM)
  have HS := Lib.hid hs
  have HX := Lib.hid (And.intro hb0 hx0)
  have hvl := vsort_len (gM M)
  have hvm : ∀ a, a ∈ vsort (gM M) → ∃ j, gvar (gM M) a = some j ∧ ivar (gM M) a = (j : Nat) ∧ j < (gM M).length := fun a h => ivar_of h
  obtain ⟨V, hV⟩ : ∃ V, vsort (gM M) = V := ⟨_, rfl⟩
  rw [hV] at HVS hvl hvm ⊢
  have hVl : V.length ≤ q := by rw [← hgM]; exact hvl
  have HVM := Lib.hid hvm
  have HV := Lib.hid HVS
  have HG := Lib.hid hgM
  clear hvm hV hvl
  clear hM hs hx0 hb0 hq HVS hgM
  go_enter Tryz.func25, Tryz.ntmps25
  go_wp2_with fail
  refine HV.out.mono ?_
  rintro e w1 ⟨v1, rfl, hv1, hb1⟩
  obtain ⟨Av, cvv, rfl⟩ := hv1.form
  have HB1 := Lib.hid (HX.out.1.trans (hb1.mono (Nat.le_of_lt hl0)))
  have HR := Lib.hid (And.intro hv1 hb1)
  clear HV hb1 hv1 x0 hW0
  go_wp2_with fail
  go_loopw [5, 7] (fun s t wr => ∃ k : Nat, t = .int .i64 (k : Nat) ∧ k ≤ V.length ∧ wr.ownsRow w1.heap.size 3 1 s ((V.take k).filter (selC (gM M) c i)).length (ints ((V.take k).filter (selC (gM M) c i))) ∧ Below w1.heap.size w1 wr) (fun _ t _ => V.length - (intOf t).toNat)
  case atStart => exact ⟨0, rfl, Nat.zero_le _, World.ownsRow_nil _ _ _ _, Below.refl _ _⟩
  case round =>
    obtain ⟨k, rfl, hk, ho, hb⟩ := hrel
    obtain ⟨As, cs, rfl⟩ := Un.row_form ho
    have hbw : Below w.heap.size w wr := HB1.out.trans (hb.mono HB1.out.size)
    have HO := Lib.hid (And.intro ho (And.intro hb hbw))
    clear ho hb hbw
    by_cases hkl : k < V.length
    · have f1 : decide ((k : Int) < (V.length : Int)) = true := decide_eq_true (by omega)
      obtain ⟨a, ha⟩ : ∃ a, V[k]? = some a := ⟨_, List.getElem?_eq_getElem hkl⟩
      obtain ⟨bv, ov, rfl, hbv, z0⟩ := HR.out.1.int_at k a ha
      obtain ⟨j, hj, hjv, hjl⟩ := HVM.out a (List.mem_of_getElem? ha)
      rw [HG.out] at hjl
      have hcol : selC (gM M) c i a = (c j == c i) := by unfold selC; rw [hjv]; simp
      obtain ⟨bb, hbb⟩ : ∃ bb, (c j == c i) = bb := ⟨_, rfl⟩
      have e1 : ((c j : Int) == (c i : Int)) = bb := by
        rw [← hbb, Bool.eq_iff_iff, beq_iff_eq, beq_iff_eq]; omega
      have hst : (V.take (k + 1)).filter (selC (gM M) c i) = (V.take k).filter (selC (gM M) c i) ++ if bb = true then [a] else [] := by
        rw [List.take_add_one, ha, List.filter_append]
        congr 1
        rw [← hbb, ← hcol]
        simp [List.filter_cons]
      have hml : ((V.take k).filter (selC (gM M) c i)).length ≤ k := Nat.le_trans (List.length_filter_le _ _) (by simp; omega)
      have hWB : ∀ W, Below wr.heap.size wr W → Below w.heap.size w W := fun W hW => HO.out.2.2.trans (hW.mono HO.out.2.2.size)
      have HVR : Hid (∀ W, Below wr.heap.size wr W → Calls Tryz.prog 23 #[.slice A q c0, .int .i64 a] W fun e w' => e = .returned (.int .i64 (j : Nat)) ∧ Below W.heap.size W w') := Lib.hid fun W hW => by
        have hr := rvar_graph W (.slice A q c0) M (by have := HM.out.2.below (hWB W hW); rwa [HM.out.1] at this ⊢) (by rw [HM.out.1]; omega) a
        rwa [hjv] at hr
      have EX : Hid (∀ W, Below wr.heap.size wr W → W.cell? ⟨w.heap.size, 0, none⟩ = some (.slice A q c0) ∧ W.cell? ⟨w.heap.size, 1, none⟩ = some (.slice (some ⟨g, 0, none⟩) q cv) ∧ W.cell? ⟨bv, ov + k, none⟩ = some (.int .i64 a) ∧ W.cell? ⟨g, j, none⟩ = some (.int .i64 (c j : Nat)) ∧ W.cell? ⟨g, i, none⟩ = some (.int .i64 (c i : Nat))) := Lib.hid fun W hW => by
        have hw1 : Below w1.heap.size w1 W := HO.out.2.1.trans (hW.mono HO.out.2.1.size)
        have hw0 : Below W0.heap.size W0 W := HR.out.2.trans (hw1.mono HR.out.2.size)
        have hx := (hw0.block w.heap.size hl0).trans HX.out.2
        have hS := own_below HS.out (hWB W hW)
        exact ⟨cell_of_row W _ 0 _ _ (0, 0) hx, cell_of_row W _ 1 _ _ (0, 0) hx, (hw1.cell (p := ⟨bv, ov + k, none⟩) hbv).trans z0, (hS.cellAt j (by omega)).trans (rowI_get hjl), (hS.cellAt i (by omega)).trans (rowI_get hi)⟩
      have HST := Lib.hid (And.intro hst hml)
      clear ha z0 hj hjv hcol hbb hst hml hWB
      go_wp2_with fail
      have hS : Below wr.heap.size wr wr.drew := (Below.refl _ _).drew
      refine wp_region_held (S := (fun W => Below wr.heap.size wr W)) (by kernel_rfl) ?_
      change wpAnyH _ _ _ _ _ 17 (List.replicate 17 false).toArray _ wr.drew
      simp only [List.replicate_succ, List.replicate_zero]
      refine any_take (i := 0) (some 17) (.pointer (some ⟨w.heap.size, 1, none⟩)) rfl (by rfl) (by kernel_rfl) (by kernel_rfl) (by kernel_rfl) (fun _ _ _ h => h) (Or.inl ⟨by kernel_rfl, (fun W hw => by clear hw; go_simp)⟩) hS ?_
      simp only [Act.put, List.setIfInBounds_toArray, List.set_cons_zero, List.set_cons_succ]
      refine any_take (i := 1) (some 18) (.slice (some ⟨g, 0, none⟩) q cv) rfl (by rfl) (by kernel_rfl) (by kernel_rfl) (by kernel_rfl) (fun _ _ _ h => h) (Or.inl ⟨by kernel_rfl, (fun W hw => by obtain ⟨e1, e2, e3, e4, e5⟩ := EX.out W hw; clear hw; go_simp)⟩) hS ?_
      simp only [Act.put, List.setIfInBounds_toArray, List.set_cons_zero, List.set_cons_succ]
      refine any_take (i := 2) (some 19) (.pointer (some ⟨w.heap.size, 0, none⟩)) rfl (by rfl) (by kernel_rfl) (by kernel_rfl) (by kernel_rfl) (fun _ _ _ h => h) (Or.inl ⟨by kernel_rfl, (fun W hw => by clear hw; go_simp)⟩) hS ?_
      simp only [Act.put, List.setIfInBounds_toArray, List.set_cons_zero, List.set_cons_succ]
      refine any_take (i := 3) (some 20) (.slice A q c0) rfl (by rfl) (by kernel_rfl) (by kernel_rfl) (by kernel_rfl) (fun _ _ _ h => h) (Or.inl ⟨by kernel_rfl, (fun W hw => by obtain ⟨e1, e2, e3, e4, e5⟩ := EX.out W hw; clear hw; go_simp)⟩) hS ?_
      simp only [Act.put, List.setIfInBounds_toArray, List.set_cons_zero, List.set_cons_succ]
      refine any_take (i := 4) (some 21) (.slice (some ⟨bv, ov, none⟩) V.length cvv) rfl (by rfl) (by kernel_rfl) (by kernel_rfl) (by kernel_rfl) (fun _ _ _ h => h) (Or.inl ⟨by kernel_rfl, (fun W hw => by clear hw; go_simp)⟩) hS ?_
      simp only [Act.put, List.setIfInBounds_toArray, List.set_cons_zero, List.set_cons_succ]
      refine any_take (i := 5) (some 22) (.int .i64 (k : Nat)) rfl (by rfl) (by kernel_rfl) (by kernel_rfl) (by kernel_rfl) (fun _ _ _ h => h) (Or.inl ⟨by kernel_rfl, (fun W hw => by clear hw; go_simp)⟩) hS ?_
      simp only [Act.put, List.setIfInBounds_toArray, List.set_cons_zero, List.set_cons_succ]
      refine any_take (i := 6) (some 23) (.pointer (some ⟨bv, ov + k, none⟩)) rfl (by rfl) (by kernel_rfl) (by kernel_rfl) (by kernel_rfl) (fun _ _ _ h => h) (Or.inl ⟨by kernel_rfl, (fun W hw => by clear hw; go_simp)⟩) hS ?_
      simp only [Act.put, List.setIfInBounds_toArray, List.set_cons_zero, List.set_cons_succ]
      refine any_take (i := 7) (some 24) (.int .i64 a) rfl (by rfl) (by kernel_rfl) (by kernel_rfl) (by kernel_rfl) (fun _ _ _ h => h) (Or.inl ⟨by kernel_rfl, (fun W hw => by obtain ⟨e1, e2, e3, e4, e5⟩ := EX.out W hw; clear hw; go_simp)⟩) hS ?_
      simp only [Act.put, List.setIfInBounds_toArray, List.set_cons_zero, List.set_cons_succ]
      refine any_take (i := 11) (some 28) (.pointer (some ⟨w.heap.size, 1, none⟩)) rfl (by rfl) (by kernel_rfl) (by kernel_rfl) (by kernel_rfl) (fun _ _ _ h => h) (Or.inl ⟨by kernel_rfl, (fun W hw => by clear hw; go_simp)⟩) hS ?_
      simp only [Act.put, List.setIfInBounds_toArray, List.set_cons_zero, List.set_cons_succ]
      refine any_take (i := 12) (some 29) (.slice (some ⟨g, 0, none⟩) q cv) rfl (by rfl) (by kernel_rfl) (by kernel_rfl) (by kernel_rfl) (fun _ _ _ h => h) (Or.inl ⟨by kernel_rfl, (fun W hw => by obtain ⟨e1, e2, e3, e4, e5⟩ := EX.out W hw; clear hw; go_simp)⟩) hS ?_
      simp only [Act.put, List.setIfInBounds_toArray, List.set_cons_zero, List.set_cons_succ]
      refine any_take (i := 13) (some 30) (.int .i64 (i : Nat)) rfl (by rfl) (by kernel_rfl) (by kernel_rfl) (by kernel_rfl) (fun _ _ _ h => h) (Or.inl ⟨by kernel_rfl, (fun W hw => by clear hw; go_simp)⟩) hS ?_
      simp only [Act.put, List.setIfInBounds_toArray, List.set_cons_zero, List.set_cons_succ]
      refine any_take (i := 14) (some 31) (.pointer (some ⟨g, i, none⟩)) rfl (by rfl) (by kernel_rfl) (by kernel_rfl) (by kernel_rfl) (fun _ _ _ h => h) (Or.inl ⟨by kernel_rfl, (fun W hw => by clear hw; go_simp)⟩) hS ?_
      simp only [Act.put, List.setIfInBounds_toArray, List.set_cons_zero, List.set_cons_succ]
      refine any_take (i := 15) (some 32) (.int .i64 (c i : Nat)) rfl (by rfl) (by kernel_rfl) (by kernel_rfl) (by kernel_rfl) (fun _ _ _ h => h) (Or.inl ⟨by kernel_rfl, (fun W hw => by obtain ⟨e1, e2, e3, e4, e5⟩ := EX.out W hw; clear hw; go_simp)⟩) hS ?_
      simp only [Act.put, List.setIfInBounds_toArray, List.set_cons_zero, List.set_cons_succ]
      refine wpAnyH_all (rs := [8]) (by kernel_rfl) (by simp) fun q' hq' => ?_
      obtain rfl : q' = 8 := by simpa using hq'
      refine ops_call (d := some 25) rfl (by rfl) (by kernel_rfl) (by go_simp) ((HVR.out _ hS).mono ?_)
      rintro e w5 ⟨rfl, hb5⟩
      have hS5 : Below wr.heap.size wr w5 := hS.trans (hb5.mono hS.size)
      refine ⟨_, rfl, hS5, ?_⟩
      simp only [Act.put, List.setIfInBounds_toArray, List.set_cons_zero, List.set_cons_succ]
      refine any_take (i := 9) (some 26) (.pointer (some ⟨g, j, none⟩)) rfl (by rfl) (by kernel_rfl) (by kernel_rfl) (by kernel_rfl) (fun _ _ _ h => h) (Or.inl ⟨by kernel_rfl, (fun W hw => by clear hw; go_simp)⟩) hS5 ?_
      simp only [Act.put, List.setIfInBounds_toArray, List.set_cons_zero, List.set_cons_succ]
      refine any_take (i := 10) (some 27) (.int .i64 (c j : Nat)) rfl (by rfl) (by kernel_rfl) (by kernel_rfl) (by kernel_rfl) (fun _ _ _ h => h) (Or.inl ⟨by kernel_rfl, (fun W hw => by obtain ⟨e1, e2, e3, e4, e5⟩ := EX.out W hw; clear hw; go_simp)⟩) hS5 ?_
      simp only [Act.put, List.setIfInBounds_toArray, List.set_cons_zero, List.set_cons_succ]
      refine any_take (i := 16) (some 33) (.bool bb) rfl (by rfl) (by kernel_rfl) (by kernel_rfl) (by kernel_rfl) (fun _ _ _ h => h) (Or.inl ⟨by kernel_rfl, (fun W hw => by clear hw; go_simp)⟩) hS5 ?_
      simp only [Act.put, List.setIfInBounds_toArray, List.set_cons_zero, List.set_cons_succ]
      refine wpAnyH_done (by kernel_rfl) ?_ _
      have ho5 := own_below HO.out.1 hS5
      have hb5' : Below w.heap.size w w5 := HO.out.2.2.trans (hS5.mono HO.out.2.2.size)
      obtain ⟨y2, hy2⟩ : ∃ y, ((V.take k).filter (selC (gM M) c i)) = y := ⟨_, rfl⟩
      have hyl := HST.out.2
      rw [hy2] at ho5 hyl ⊢
      obtain ⟨g4, c4, w4, hrun, hown4, hb4⟩ := app_io w1.heap.size w5 (Nat.le_trans HO.out.2.1.size hS5.size) (.slice As y2.length cs) y2 ho5 a (by omega)
      have z0 : w5.cell? ⟨bv, ov + k, none⟩ = some (.int .i64 a) := (EX.out w5 hS5).2.2.1
      have HA := Lib.hid (And.intro hy2 (And.intro hS5 (And.intro ho5 hown4)))
      have HA2 := Lib.hid (show Below w1.heap.size w1 w4 from (HO.out.2.1.trans (hS5.mono HO.out.2.1.size)).trans hb4)
      clear hS hS5 hb5 ho5 hb5' hy2 hyl hown4 hb4 EX HVR e1
      cases bb with
      | true =>
        go_wp2_with fail
        go_roundw
        case rel =>
          refine ⟨k + 1, by go_num, hkl, ?_, HA2.out⟩
          rw [HST.out.1, if_pos rfl, HA.out.1]
          exact HA.out.2.2.2
        case measure => simp [intOf]; omega
      | false =>
        go_wp2_with fail
        go_roundw
        case rel =>
          refine ⟨k + 1, by go_num, hkl, ?_, HO.out.2.1.trans (HA.out.2.1.mono HO.out.2.1.size)⟩
          rw [HST.out.1, if_neg (by decide), List.append_nil, HA.out.1]
          exact HA.out.2.2.1
        case measure => simp [intOf]; omega
    · have hke : k = V.length := by omega
      subst hke
      have HZ := Lib.hid HO.out.2.2
      go_wp2_with fail
      go_ret
      have hfin : Rd wr 1 (.slice As ((V.take V.length).filter (selC (gM M) c i)).length cs) (V.filter (selC (gM M) c i)).length (ints (V.filter (selC (gM M) c i))) := by
        have := Rd.of_own HO.out.1
        rw [List.take_length] at this ⊢
        exact this
      exact ⟨_, rfl, hfin, HZ.out⟩
end Go.Proofs.YtbnpmeaaaecciaaGreat
/- unify: what UnifyClasses' walk leans on. -/
namespace Go.Proofs.YtbnpmeaaaecciaaGreat
open Go.RowKit
open Un (Else dg cnt own_else intAt)
set_option maxRecDepth 100000
attribute [local go_sem] Oper.semAt_some
attribute [local go_sem ↓] builtin_app
/-- How many binary digits. -/
def dgt (n : Nat) : Nat := if n = 0 then 0 else dg n
theorem dgt_half {n : Nat} (h : 0 < n) : dgt n = dgt (n / 2) + 1 := by
  unfold dgt
  rw [if_neg (by omega)]
  unfold dg
  by_cases h1 : n / 2 = 0
  · rw [if_pos h1]
    have : n = 1 := by omega
    subst this
    decide
  · rw [if_neg h1, Nat.log2_def n, if_pos (by omega)]
set_option maxHeartbeats 1000000 in
theorem digits12_any (w : World) (n : Nat) (hn : n ≤ 1000000) :
    Calls Tryz.prog 15 #[.int .i64 (n : Nat)] w fun e w' => e = .returned (.int .i64 (dgt n : Nat)) ∧ w' = w := by
  have hd : dgt n ≤ 21 := by unfold dgt; split; omega; exact Un.dg_le (by omega)
  go_enter Tryz.func15, Tryz.ntmps15
  go_wp2_with fail
  go_loopw [0, 3] (fun s d wr => wr = w ∧ ∃ k j : Nat, s = .int .i64 (k : Int) ∧ d = .int .i64 (j : Int) ∧ j + dgt k = dgt n ∧ k ≤ n) (fun s _ _ => (intAt s).toNat)
  case atStart => exact ⟨rfl, n, 0, rfl, rfl, by omega, Nat.le_refl _⟩
  case round =>
    obtain ⟨rfl, k, j, rfl, rfl, hs, hk⟩ := hrel
    by_cases hk0 : 0 < k
    · have f1 : decide ((0 : Int) < (k : Nat)) = true := decide_eq_true (by omega)
      have hh := dgt_half hk0
      obtain ⟨k2, hk2⟩ : ∃ k2, k / 2 = k2 := ⟨_, rfl⟩
      rw [hk2] at hh
      have f2 : ((k : Nat) : Int).tdiv 2 = (k2 : Int) := by rw [← hk2]; rfl
      have f3 : ((k : Nat) : Int) / 2 = (k2 : Int) := by omega
      have hlt : k2 < k := by omega
      clear hk2
      go_wp2_with fail
      go_roundw
      case rel => exact ⟨trivial, k2, j + 1, by go_num, by go_num, by omega, by omega⟩
      case measure =>
        simp only [intAt]
        omega
    · have f1 : decide ((0 : Int) < (k : Nat)) = false := decide_eq_false (by omega)
      obtain rfl : k = 0 := by omega
      have e0 : dgt 0 = 0 := rfl
      rw [e0, Nat.add_zero] at hs
      subst hs
      go_wp2_with fail
      go_ret
      exact ⟨rfl, rfl⟩
/-- A closure that doesn't clash, above block B, with what its steps come to; q: how many equations came in. -/
def OkC (B : Nat) (w : World) (c : Nat) (s : Sys) (q : Nat) (st : Int) : Prop :=
  ∃ O fs m J, CsM O w c s.1 s.2 st fs m ∧ (0 ≤ st ∧ st ≤ (1 + 4 * (dg s.1.length : Int)) * (J : Nat) ∧ 0 ≤ fs ∧ fs ≤ (1 + 4 * (dg s.1.length : Int)) * (J : Nat)) ∧ J + 9 * m ≤ 9 * s.1.length + q ∧ ∀ k, O k → B ≤ k ∧ k < w.heap.size
section UzWs
variable {w w' : World} {B c q : Nat} {s : Sys} {st : Int}
theorem OkC.below (h : OkC B w c s q st) (hb : Below w.heap.size w w') : OkC B w' c s q st := by
  obtain ⟨O, fs, m, J, hC, h2, h3, h4⟩ := h
  exact ⟨O, fs, m, J, hC.below hb, h2, h3, fun k hk => by have := h4 k hk; have := hb.size; omega⟩
theorem OkC.noClash (h : OkC B w c s q st) : ¬ Clash s.1 s.2 := by
  obtain ⟨O, fs, m, J, hC, _⟩ := h
  exact hC.noClash
theorem mulb {d e J : Int} (h : d ≤ e) (hJ : 0 ≤ J) : (1 + 4 * d) * J ≤ (1 + 4 * e) * J := Int.mul_le_mul_of_nonneg_right (by omega) hJ
theorem mulj (d J : Int) : (1 + 4 * d) * J = J + 4 * d * J := by rw [Int.add_mul, Int.one_mul]
theorem muls (d J j : Int) : (1 + 4 * d) * (J + j) = (1 + 4 * d) * J + (j + 4 * d * j) := by rw [Int.mul_add, mulj d j]
theorem mulk {d J K : Int} (hd : 0 ≤ d) (h : J ≤ K) : (1 + 4 * d) * J ≤ (1 + 4 * d) * K := Int.mul_le_mul_of_nonneg_left h (by omega)
theorem mul22 {d J : Int} (h0 : 0 ≤ d) (h : d ≤ 21) (hJ : 0 ≤ J) (h1 : J ≤ 100000) : (1 + 4 * d) * J ≤ 10000000 := by
  have a := Int.mul_le_mul_of_nonneg_right (show 1 + 4 * d ≤ 85 by omega) hJ
  omega
theorem dg_mono {a b : Nat} (h : a ≤ b) : dg a ≤ dg b := by
  unfold dg
  rcases Nat.eq_zero_or_pos a with rfl | ha
  · simp
  · have := (Nat.le_log2 (by omega)).2 (Nat.le_trans (Nat.log2_self_le (n := a) (by omega)) h)
    omega
theorem OkC.fits (h : OkC B w c s q st) (hl : s.1.length ≤ 8000) (hq : q ≤ 100) : 0 ≤ st ∧ st ≤ 10000000 := by
  obtain ⟨O, fs, m, J, hC, ⟨g1, g2, g3, g4⟩, h3, h4⟩ := h
  have hd : dg s.1.length ≤ 21 := Un.dg_le (by omega)
  have := mul22 (d := dg s.1.length) (J := (J : Nat)) (by omega) (by omega) (by omega) (by omega)
  omega
theorem OkC.one (h : OkC B w c s q st) (hl : s.1.length ≤ 8000) (hq : q ≤ 100) : One1 B w c s 1 := by
  obtain ⟨O, fs, m, J, hC, ⟨g1, g2, g3, g4⟩, h3, h4⟩ := h
  have hd : dg s.1.length ≤ 21 := Un.dg_le (by omega)
  have := mul22 (d := dg s.1.length) (J := (J : Nat)) (by omega) (by omega) (by omega) (by omega)
  exact ⟨O, st, fs, m, hC, ⟨by omega, by omega, by omega, by omega⟩, h4⟩
/-- One right equation more. -/
theorem ok_eq (h : OkC B w c s q st) (hB : B ≤ w.heap.size) (x : Eqn) (hx : EqT B w x) (hw : TyW x.1 ∧ TyW x.2.1) (hr : rtE x = true) (hs : s.1.length + sz1 x ≤ 8000) (hq : q ≤ 100) :
    Calls Tryz.prog 8 #[.pointer (some ⟨c, 0, none⟩), t1V x.1, t1V x.2.1] w fun e w' => ∃ (r st' : Int), e = .returned (.int .i64 r) ∧ Below B w w' ∧ st ≤ st' ∧ st' ≤ (1 + 4 * (dg (stp s x).1.length : Int)) * ((9 * (stp s x).1.length + q + 1 : Nat) : Int) ∧
      ((r = 7 ∧ Clash (stp s x).1 (stp s x).2 ∧ CxM w' c st') ∨ (r = 0 ∧ ¬ Clash (stp s x).1 (stp s x).2 ∧ OkC B w' c (stp s x) (q + 1) st')) := by
  have hfit := h.fits (by omega) hq
  obtain ⟨O, fs, m, J, hC, ⟨g1, g2, g3, g4⟩, h9, h3⟩ := h
  have hr' : rt1 x.1 = true ∧ rt1 x.2.1 = true := by unfold rtE at hr; rwa [Bool.and_eq_true] at hr
  have ht1 : TyLat O w x.1.1 x.1.2.1 x.1.2.2.1 x.1.2.2.2 := TyLat.low hx.1 (fun k hk => (h3 k hk).1) hB ⟨hw.1.1, hw.1.2, trivial⟩ (rt1_right hr'.1 (TyV.len hx.1))
  have ht2 : TyLat O w x.2.1.1 x.2.1.2.1 x.2.1.2.2.1 x.2.1.2.2.2 := TyLat.low hx.2 (fun k hk => (h3 k hk).1) hB ⟨hw.2.1, hw.2.2, trivial⟩ (rt1_right hr'.2 (TyV.len hx.2))
  have hd0 : dg s.1.length ≤ 21 := Un.dg_le (by omega)
  have hj0 := mul22 (d := dg s.1.length) (J := (J : Nat)) (by omega) (by omega) (by omega) (by omega)
  refine (equate_ok hC x.1.1 x.1.2.1 x.2.1.1 x.2.1.2.1 x.1.2.2.1 x.2.1.2.2.1 x.1.2.2.2 x.2.1.2.2.2 ht1 ht2 (by unfold sz1 at hs; omega) (by omega) (by omega)).mono ?_
  rintro e w' ⟨hE, st', j, q1, q2, q3⟩
  obtain ⟨X, hX, hXl⟩ := (stp_pre s x).1
  have hl2 : s.1.length ≤ (stp s x).1.length := by rw [hX, List.length_append]; omega
  have hdm := dg_mono hl2
  have hB' : Below B w w' := hE.below (fun k hk => (h3 k hk).1) hB
  have e1 : (eqG s.1 x.1.1 x.1.2.1 x.1.2.2.2 x.2.1.1 x.2.1.2.1 x.2.1.2.2.2).length = (stp s x).1.length := rfl
  rw [e1] at q2 q3
  have k1 := mulb (d := dg s.1.length) (e := dg (stp s x).1.length) (J := (J : Nat)) (by omega) (by omega)
  have k2 := muls (dg (stp s x).1.length) (J : Nat) (j : Nat)
  rcases q3 with ⟨rfl, hc, hx, hj⟩ | ⟨rfl, hc, fs', m', hC', f1, f2, hj⟩
  · have k3 := mulk (d := dg (stp s x).1.length) (J := ((J : Nat) : Int) + (j : Nat)) (K := ((9 * (stp s x).1.length + q + 1 : Nat) : Int)) (by omega) (by omega)
    exact ⟨7, st', rfl, hB', q1, by omega, .inl ⟨rfl, hc, hx⟩⟩
  · have k3 := mulk (d := dg (stp s x).1.length) (J := ((J : Nat) : Int) + (j : Nat)) (K := ((9 * (stp s x).1.length + q + 1 : Nat) : Int)) (by omega) (by omega)
    have k4 := mulj (dg (stp s x).1.length) (j : Nat)
    obtain ⟨O', a1, a2⟩ := hC'.tight
    have e2 : ((J + j : Nat) : Int) = (J : Nat) + (j : Nat) := by push_cast; rfl
    refine ⟨0, st', rfl, hB', q1, by omega, .inr ⟨rfl, hc, O', fs', m', J + j, a2, ⟨by omega, by rw [e2]; omega, by omega, by rw [e2]; omega⟩, by omega, fun k hk => ?_⟩⟩
    obtain ⟨b1, b2⟩ := a1 k hk
    refine ⟨?_, b2⟩
    rcases b1 with b1 | b1
    · exact (h3 k b1).1
    · omega
/-- The bound on steps. -/
theorem steps_ok {n q e : Nat} {st : Int} (h : st ≤ (1 + 4 * (dg n : Int)) * ((9 * n + q : Nat) : Int)) (hn : n ≤ e) (hq : 2 * q ≤ e) : st ≤ 40 * ((1 + e : Nat) : Int) * ((dgt (1 + e) : Nat) + 2) := by
  have hd : dg n ≤ dgt (1 + e) := by
    unfold dgt
    rw [if_neg (by omega)]
    exact dg_mono (by omega)
  have h1 := mulb (d := dg n) (e := dgt (1 + e)) (J := ((9 * n + q : Nat) : Int)) (by omega) (by omega)
  have h2 := mulk (d := dgt (1 + e)) (J := ((9 * n + q : Nat) : Int)) (K := ((10 * (1 + e) : Nat) : Int)) (by omega) (by omega)
  have e2 : ((10 * (1 + e) : Nat) : Int) = 10 * ((1 + e : Nat) : Int) := by push_cast; rfl
  rw [e2] at h2
  have h5 := Int.le_trans h (Int.le_trans h1 h2)
  have hy : 0 ≤ ((1 + e : Nat) : Int) := by omega
  clear h h1 h2 hn hq hd e2
  generalize ((1 + e : Nat) : Int) = y at *
  generalize ((dgt (1 + e) : Nat) : Int) = d at *
  have h3 : (1 + 4 * d) * (10 * y) = 10 * y + 40 * (d * y) := by
    rw [Int.add_mul, Int.one_mul, Int.mul_assoc, Int.mul_left_comm d 10 y, ← Int.mul_assoc 4 10]
    rfl
  have h4 : 40 * y * (d + 2) = 40 * (d * y) + 80 * y := by
    rw [Int.mul_add, Int.mul_assoc, Int.mul_comm y d]
    congr 1
    rw [Int.mul_comm, ← Int.mul_assoc]
    rfl
  rw [h3] at h5
  rw [h4]
  omega
end UzWs
end Go.Proofs.YtbnpmeaaaecciaaGreat
