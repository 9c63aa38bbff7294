/- Texts of one proof, one behind the other. -/
import Derived.Test.YtojgiienohpaiaaGreatMgCycleTells1
import Derived.Test.YtojgiienohpaiaaGreatMgCycleTells15
import Derived.IntWalk
import Derived.Laws.OwnMore
import Derived.Test.YtojgiienohpaiaaGreatMgCycleTells8
import Derived.Test.YtojgiienohpaiaaGreatMgCycleTells3
import Derived.Deep.RegionWith
namespace Go.Proofs.YtojgiienohpaiaaGreat
open Go.RowKit
open Un (Else StM rowI UFo own_else dg swp wp_world paint)
attribute [local go_sem] Oper.semAt_some
set_option maxRecDepth 100000
theorem zeroCy (w : World) : (zeroValue 4).run Tryz.prog w = .ok (.bool false) w := by kernel_rfl
theorem endsTy : MapTy 83 4 (.bool false) := ⟨Tryz.underlying83, zeroCy⟩
def endF (e : Nat → Option Bool) (n : Int) : Option Value := if 0 ≤ n then (e n.toNat).map Value.bool else none
theorem endF_at (e : Nat → Option Bool) (r : Nat) : endF e (r : Int) = (e r).map Value.bool := by
  unfold endF
  rw [if_pos (by omega)]
  simp
theorem endF_upd (e : Nat → Option Bool) (r : Nat) (b : Bool) : upd (endF e) (r : Int) (.bool b) = endF (upe e r b) := by
  funext m
  unfold upd endF upe
  by_cases h : 0 ≤ m
  · rw [if_pos h, if_pos h]
    by_cases hm : m = r
    · subst hm
      simp
    · rw [if_neg hm, if_neg (by omega)]
  · rw [if_neg h, if_neg h, if_neg (by omega)]
def WkM (w : World) (wb mb : Nat) (e : Nat → Option Bool) (st : Int) (m : Nat) : Prop :=
  w.heap[wb]? = some (Obj.cells #[.map (some mb), .int .i64 st] 110) ∧ ∃ S, MapF (endF e) S m mb w
theorem WkM.keep {w w' : World} {wb mb : Nat} {e : Nat → Option Bool} {st : Int} {m : Nat} (h : WkM w wb mb e st m) {S : Nat → Prop} (he : Else S w w') (h1 : ¬ S wb) (h2 : ¬ S mb) : WkM w' wb mb e st m := by
  obtain ⟨a, z, b⟩ := h
  exact ⟨(he.block wb (Array.getElem?_eq_some_iff.1 a).1 h1).trans a, z, b.block (he.block mb b.lt h2)⟩
theorem WkM.lt {w : World} {wb mb : Nat} {e : Nat → Option Bool} {st : Int} {m : Nat} (h : WkM w wb mb e st m) : wb < w.heap.size ∧ mb < w.heap.size := by
  obtain ⟨a, z, b⟩ := h
  exact ⟨(Array.getElem?_eq_some_iff.1 a).1, b.lt⟩
section CyAs
variable {O : Nat → Prop} {w : World} {cb : Nat} {A : Adr} {st : Int} {n : Nat} {G : List Gn} {kn : Kn} {nx col ro : Nat → Nat} {fs : Int} {wb mb : Nat} {e : Nat → Option Bool} {sp : Int} {m : Nat}
set_option maxHeartbeats 1000000 in
theorem seen_any (hC : ClM O w cb A st false n G kn nx col ro fs) (hW : WkM w wb mb e sp m) (hap : ∀ k, A.D k ∨ A.F cb k → k ≠ wb) (hne : wb ≠ mb) (hsp : 0 ≤ sp ∧ sp ≤ 1000000000000) (r : Nat) (hr : r ≤ 1000000000) :
    Calls Tryz.prog 79 #[.pointer (some ⟨wb, 0, none⟩), .agg #[.pointer (some ⟨cb, 0, none⟩), .int .i64 (r : Nat)]] w fun x w' => x = .returned (.bool (e r).isSome) ∧ WkM w' wb mb e (sp + 1) m ∧ Else (fun k => k = wb) w w' := by
  obtain ⟨ok, hok⟩ : ∃ b, (e r).isSome = b := ⟨_, rfl⟩
  rw [hok]
  have HOK := Lib.hid hok
  clear hok
  obtain ⟨hcell, z, hmap⟩ := id hW
  have hwl := hW.lt
  have c0 : w.cell? ⟨wb, 0, none⟩ = some (.map (some mb)) := cell_of_row w _ 0 _ _ (0, 0) hcell
  have c1 : w.cell? ⟨wb, 1, none⟩ = some (.int .i64 sp) := cell_of_row w _ 1 _ _ (0, 0) hcell
  have cz : w.frozen? ⟨wb, 1, none⟩ = false := by simp [World.frozen?, hcell]
  have HH := Lib.hid (And.intro hC (And.intro hW (And.intro hap (And.intro hne (And.intro hcell (And.intro hmap hr))))))
  have hwb := hwl.1
  clear hC hW hap hne hcell hmap hwl hr
  go_enter Tryz.func79, Tryz.ntmps79
  go_upto_region 2 with fail
  refine wp_world (fun Z => Z.heap[w.heap.size]? = some (Obj.cells #[.pointer (some ⟨cb, 0, none⟩), .int .i64 (r : Nat)] 78) ∧ Z.heap[wb]? = some (Obj.cells #[.map (some mb), .int .i64 (sp + 1)] 110) ∧ Else (fun k => k = wb) w Z) ?_ ?_
  · have hs : (w.setCell ⟨wb, 1, none⟩ (.int .i64 (sp + 1))).heap.size = w.heap.size := by simp
    refine ⟨?_, ?_, ?_⟩
    · have := heap_alloc_new (w.setCell ⟨wb, 1, none⟩ (.int .i64 (sp + 1))) (.cells #[.pointer (some ⟨cb, 0, none⟩), .int .i64 (r : Nat)] 78)
      rw [hs] at this
      exact this
    · exact (Below.heap_alloc _ _ _ (by rw [hs]; exact hwb)).trans (heap_setCell_same w wb 1 _ _ _ HH.out.2.2.2.2.1)
    · exact (Un.Else.set (S := fun k => k = wb) w (p := ⟨wb, 1, none⟩) rfl _).trans (Un.Else.alloc _ _ _)
  rintro Z ⟨h1, h2, h3⟩
  have hmZ : MapF (endF e) z m mb Z := HH.out.2.2.2.2.2.1.block (h3.block mb HH.out.2.2.2.2.2.1.lt (fun h => HH.out.2.2.2.1 h.symm))
  have hCZ := HH.out.1.aside h3 fun k hk he => HH.out.2.2.1 k hk he
  have hrw : (Lit.int .i64 (r : Nat)).wf = true := by have h := wrap64_wf (r : Nat); rwa [IntWalk.wrap64_in _ (by have := HH.out.2.2.2.2.2.2; omega)] at h
  obtain ⟨z0, hz0⟩ : ∃ v : Bool, (((e r).map Value.bool).getD (.bool false)) = .bool v := by cases e r with
    | none => exact ⟨false, rfl⟩
    | some b => exact ⟨b, rfl⟩
  have hok := HOK.out
  have EX : Hid (∀ W, Below Z.heap.size Z W → W.cell? ⟨w.heap.size, 0, none⟩ = some (.pointer (some ⟨cb, 0, none⟩)) ∧ W.cell? ⟨w.heap.size, 1, none⟩ = some (.int .i64 (r : Nat)) ∧ W.cell? ⟨wb, 0, none⟩ = some (.map (some mb)) ∧ (Instr.lookup 83 (.map (some mb)) (.int .i64 (r : Nat)) true).run Tryz.prog W = .ok (.tuple #[.bool z0, .bool ok]) W) := Lib.hid fun W hW => by
    have hb := (hW.block _ (Array.getElem?_eq_some_iff.1 h1).1).trans h1
    have hw := (hW.block _ (Array.getElem?_eq_some_iff.1 h2).1).trans h2
    have hl := (hmZ.below hW).look_ok endsTy (r : Nat) hrw
    rw [endF_at, hz0] at hl
    rw [Option.isSome_map, hok] at hl
    exact ⟨cell_of_row W _ 0 _ _ (0, 0) hb, cell_of_row W _ 1 _ _ (0, 0) hb, cell_of_row W _ 0 _ _ (0, 0) hw, hl⟩
  have HID : Hid (∀ W, Below Z.heap.size Z W → Calls Tryz.prog 40 #[.agg #[.pointer (some ⟨cb, 0, none⟩), .int .i64 (r : Nat)]] W fun e w' => e = .returned (.int .i64 (r : Nat)) ∧ Below W.heap.size W w') := Lib.hid fun W hW => pid_cl (hCZ.below hW) r
  have HZ := Lib.hid (And.intro h2 (And.intro h3 (And.intro hmZ hok)))
  clear h1 h2 h3 hmZ hCZ hrw hz0 hok c0 c1 cz
  go_wp2_with fail
  have hS : Below Z.heap.size Z Z.drew := (Below.refl _ _).drew
  refine wp_region_held (S := (fun W => Below Z.heap.size Z W)) (by kernel_rfl) ?_
  change wpAnyH _ _ _ _ _ 12 (List.replicate 12 false).toArray _ Z.drew
  simp only [List.replicate_succ, List.replicate_zero]
  refine any_take (i := 0) (some 15) (.pointer (some ⟨wb, 0, none⟩)) rfl (by rfl) (by kernel_rfl) (by kernel_rfl) (by kernel_rfl) (fun _ _ _ h => h) (Or.inl ⟨by kernel_rfl, (fun W hw => by clear hw; go_simp)⟩) hS ?_
  simp only [Act.put, List.setIfInBounds_toArray, List.set_cons_zero, List.set_cons_succ]
  refine any_take (i := 1) (some 16) (.pointer (some ⟨wb, 0, none⟩)) rfl (by rfl) (by kernel_rfl) (by kernel_rfl) (by kernel_rfl) (fun _ _ _ h => h) (Or.inl ⟨by kernel_rfl, (fun W hw => by clear hw; go_simp)⟩) hS ?_
  simp only [Act.put, List.setIfInBounds_toArray, List.set_cons_zero, List.set_cons_succ]
  refine any_take (i := 2) (some 17) (.pointer (some ⟨wb, 0, none⟩)) rfl (by rfl) (by kernel_rfl) (by kernel_rfl) (by kernel_rfl) (fun _ _ _ h => h) (Or.inl ⟨by kernel_rfl, (fun W hw => by clear hw; go_simp)⟩) hS ?_
  simp only [Act.put, List.setIfInBounds_toArray, List.set_cons_zero, List.set_cons_succ]
  refine any_take (i := 3) (some 18) (.map (some mb)) rfl (by rfl) (by kernel_rfl) (by kernel_rfl) (by kernel_rfl) (fun _ _ _ h => h) (Or.inl ⟨by kernel_rfl, (fun W hw => by obtain ⟨n0_, n1_, n2_, n3_⟩ := EX.out W hw; clear hw; go_simp)⟩) hS ?_
  simp only [Act.put, List.setIfInBounds_toArray, List.set_cons_zero, List.set_cons_succ]
  refine any_take (i := 4) (some 19) (.agg #[.pointer (some ⟨cb, 0, none⟩), .int .i64 (r : Nat)]) rfl (by rfl) (by kernel_rfl) (by kernel_rfl) (by kernel_rfl) (fun _ _ _ h => h) (Or.inl ⟨by kernel_rfl, (fun W hw => by obtain ⟨n0_, n1_, n2_, n3_⟩ := EX.out W hw; clear hw; go_simp)⟩) hS ?_
  simp only [Act.put, List.setIfInBounds_toArray, List.set_cons_zero, List.set_cons_succ]
  refine wpAnyH_all (rs := [5]) (by kernel_rfl) (by simp) fun q' hq' => ?_
  obtain rfl : q' = 5 := by simpa using hq'
  refine ops_call (d := some 20) rfl (by rfl) (by kernel_rfl) (by go_simp) ((HID.out _ hS).mono ?_)
  rintro x w5 ⟨rfl, hb5⟩
  have hS5 : Below Z.heap.size Z w5 := hS.trans (hb5.mono hS.size)
  refine ⟨_, rfl, hS5, ?_⟩
  simp only [Act.put, List.setIfInBounds_toArray, List.set_cons_zero, List.set_cons_succ]
  refine any_take (i := 6) (some 21) (.tuple #[.bool z0, .bool ok]) rfl (by rfl) (by kernel_rfl) (by kernel_rfl) (by kernel_rfl) (fun _ _ _ h => h) (Or.inl ⟨by kernel_rfl, (fun W hw => by obtain ⟨n0_, n1_, n2_, n3_⟩ := EX.out W hw; clear hw; go_simp)⟩) hS5 ?_
  simp only [Act.put, List.setIfInBounds_toArray, List.set_cons_zero, List.set_cons_succ]
  refine any_take (i := 7) (some 14) (.tuple #[.bool z0, .bool ok]) rfl (by rfl) (by kernel_rfl) (by kernel_rfl) (by kernel_rfl) (fun _ _ _ h => h) (Or.inl ⟨by kernel_rfl, (fun W hw => by clear hw; go_simp)⟩) hS5 ?_
  simp only [Act.put, List.setIfInBounds_toArray, List.set_cons_zero, List.set_cons_succ]
  refine any_take (i := 8) (some 22) (.bool z0) rfl (by rfl) (by kernel_rfl) (by kernel_rfl) (by kernel_rfl) (fun _ _ _ h => h) (Or.inl ⟨by kernel_rfl, (fun W hw => by clear hw; go_simp)⟩) hS5 ?_
  simp only [Act.put, List.setIfInBounds_toArray, List.set_cons_zero, List.set_cons_succ]
  refine any_take (i := 9) (some 23) (.bool ok) rfl (by rfl) (by kernel_rfl) (by kernel_rfl) (by kernel_rfl) (fun _ _ _ h => h) (Or.inl ⟨by kernel_rfl, (fun W hw => by clear hw; go_simp)⟩) hS5 ?_
  simp only [Act.put, List.setIfInBounds_toArray, List.set_cons_zero, List.set_cons_succ]
  refine any_take (i := 10) (some 5) (.bool z0) rfl (by rfl) (by kernel_rfl) (by kernel_rfl) (by kernel_rfl) (fun _ _ _ h => h) (Or.inl ⟨by kernel_rfl, (fun W hw => by clear hw; go_simp)⟩) hS5 ?_
  simp only [Act.put, List.setIfInBounds_toArray, List.set_cons_zero, List.set_cons_succ]
  refine any_take (i := 11) (some 6) (.bool ok) rfl (by rfl) (by kernel_rfl) (by kernel_rfl) (by kernel_rfl) (fun _ _ _ h => h) (Or.inl ⟨by kernel_rfl, (fun W hw => by clear hw; go_simp)⟩) hS5 ?_
  simp only [Act.put, List.setIfInBounds_toArray, List.set_cons_zero, List.set_cons_succ]
  refine wpAnyH_done (by kernel_rfl) ?_ _
  have HB5 := Lib.hid hS5
  clear hS hS5 hb5 EX HID
  go_wp2_with fail
  refine bodyPost_ret (results_tmp rfl _ _ _) rfl ⟨rfl, ⟨(HB5.out.block _ (Array.getElem?_eq_some_iff.1 HZ.out.1).1).trans HZ.out.1, z, HZ.out.2.2.1.below HB5.out⟩, HZ.out.2.1.trans (Else.of_below HB5.out)⟩
theorem load_class {W : World} {g : Nat} {a b c d : Value} (h0 : W.cell? ⟨g, 0, none⟩ = some a) (h1 : W.cell? ⟨g, 1, none⟩ = some b) (h2 : W.cell? ⟨g, 2, none⟩ = some c) (h3 : W.cell? ⟨g, 3, none⟩ = some d) : (loadVar 81 ⟨g, 0, none⟩).run Tryz.prog W = .ok (.agg #[a, b, c, d]) W := by
  go_simp
def BgPost (O : Nat → Prop) (cb : Nat) (A : Adr) (st : Int) (n : Nat) (G : List Gn) (kn : Kn) (nx col ro : Nat → Nat) (fs : Int) (wb mb : Nat) (e : Nat → Option Bool) (sp : Int) (m r : Nat) (w : World) (x : Ending) (w' : World) : Prop :=
  ∃ (v : Value) (k : Nat), x = .returned (.agg #[.pointer (some ⟨cb, 0, none⟩), .int .i64 (r : Nat), v, .int .i64 0]) ∧ w'.ownsRow w.heap.size 78 2 v (partsO G (kn r).1).length (ptC cb ((partsO G (kn r).1).map ro)) ∧ WkM w' wb mb (upe e r false) sp (m + 1) ∧ k ≤ 168 ∧ ClM O w' cb A st false n G kn nx col ro (fs + k) ∧ Else (fun k => A.S k ∨ k = mb) w w'
set_option maxHeartbeats 2000000 in
theorem begin_any (hC : ClM O w cb A st false n G kn nx col ro fs) (hW : WkM w wb mb e sp m) (hap : ∀ k, A.D k ∨ A.F cb k → k ≠ wb ∧ k ≠ mb) (hne : wb ≠ mb) (hst : 0 ≤ fs ∧ fs ≤ 100000000000) (hdg : dg n ≤ 21) (r : Nat) (hrn : r < n) (hr : r ≤ 1000000000) (hm : m ≤ 100000000) (hP : ∀ p ∈ G, p.2.2.2.length ≤ 8 ∧ ∀ u ∈ p.2.2.2, u < n) :
    Calls Tryz.prog 80 #[.pointer (some ⟨wb, 0, none⟩), .agg #[.pointer (some ⟨cb, 0, none⟩), .int .i64 (r : Nat)]] w (BgPost O cb A st n G kn nx col ro fs wb mb e sp m r w) := by
  have HH := Lib.hid (And.intro hC (And.intro hW (And.intro hap (And.intro hne (And.intro hst (And.intro hdg (And.intro hrn (And.intro hr (And.intro hm hP)))))))))
  clear hC hW hap hne hst hdg hrn hr hm hP
  go_enter Tryz.func80, Tryz.ntmps80
  go_upto_region 1 with fail
  refine wp_world (fun Z => Z.heap[w.heap.size]? = some (Obj.cells #[.pointer (some ⟨cb, 0, none⟩), .int .i64 (r : Nat)] 78) ∧ Z.heap[w.heap.size + 1]? = some (Obj.cells #[.pointer none, .int .i64 0, .slice none 0 0, .int .i64 0] 81) ∧ Below w.heap.size w Z) ?_ ?_
  · refine ⟨(Below.heap_alloc _ _ _ (by simp)).trans (heap_alloc_new _ _), ?_, ((Below.refl _ _).alloc (Nat.le_refl _) _).alloc (by simp) _⟩
    have h := heap_alloc_new (w.alloc (.cells #[.pointer (some ⟨cb, 0, none⟩), .int .i64 (r : Nat)] 78)) (.cells #[.pointer none, .int .i64 0, .slice none 0 0, .int .i64 0] 81)
    simpa using h
  rintro Z ⟨h1, h2, h3⟩
  have hWZ : WkM Z wb mb e sp m := HH.out.2.1.keep (S := fun _ => False) (Else.of_below h3) id id
  have hCZ := HH.out.1.below h3
  have hlt := HH.out.2.1.lt
  have EX : Hid (∀ W, Else (fun k => k = mb) Z W → W.cell? ⟨w.heap.size, 0, none⟩ = some (.pointer (some ⟨cb, 0, none⟩)) ∧ W.cell? ⟨w.heap.size, 1, none⟩ = some (.int .i64 (r : Nat)) ∧ W.cell? ⟨wb, 0, none⟩ = some (.map (some mb))) := Lib.hid fun W hW => by
    have hb := (hW.block _ (Array.getElem?_eq_some_iff.1 h1).1 (fun h => by omega)).trans h1
    have hw := (hW.block _ (Array.getElem?_eq_some_iff.1 hWZ.1).1 (fun h => HH.out.2.2.2.1 h)).trans hWZ.1
    exact ⟨cell_of_row W _ 0 _ _ (0, 0) hb, cell_of_row W _ 1 _ _ (0, 0) hb, cell_of_row W _ 0 _ _ (0, 0) hw⟩
  have HID : Hid (∀ W, Below Z.heap.size Z W → Calls Tryz.prog 40 #[.agg #[.pointer (some ⟨cb, 0, none⟩), .int .i64 (r : Nat)]] W fun e w' => e = .returned (.int .i64 (r : Nat)) ∧ Below W.heap.size W w') := Lib.hid fun W hW => pid_cl (hCZ.below hW) r
  have HZ := Lib.hid (And.intro h1 (And.intro h2 (And.intro h3 (And.intro hWZ (And.intro hCZ hlt)))))
  clear h1 h2 h3 hWZ hCZ hlt
  go_wp2_with fail
  have hB : Below Z.heap.size Z Z.drew := (Below.refl _ _).drew
  have hS : Else (fun k => k = mb) Z Z.drew := Else.of_below hB
  refine wp_region_held (S := (fun W => Else (fun k => k = mb) Z W)) (by kernel_rfl) ?_
  change wpAnyH _ _ _ _ _ 7 (List.replicate 7 false).toArray _ Z.drew
  simp only [List.replicate_succ, List.replicate_zero]
  refine any_take (i := 0) (some 5) (.pointer (some ⟨wb, 0, none⟩)) rfl (by rfl) (by kernel_rfl) (by kernel_rfl) (by kernel_rfl) (fun _ _ _ h => h) (Or.inl ⟨by kernel_rfl, (fun W hw => by clear hw; go_simp)⟩) hS ?_
  simp only [Act.put, List.setIfInBounds_toArray, List.set_cons_zero, List.set_cons_succ]
  refine any_take (i := 1) (some 6) (.pointer (some ⟨wb, 0, none⟩)) rfl (by rfl) (by kernel_rfl) (by kernel_rfl) (by kernel_rfl) (fun _ _ _ h => h) (Or.inl ⟨by kernel_rfl, (fun W hw => by clear hw; go_simp)⟩) hS ?_
  simp only [Act.put, List.setIfInBounds_toArray, List.set_cons_zero, List.set_cons_succ]
  refine any_take (i := 2) (some 7) (.pointer (some ⟨wb, 0, none⟩)) rfl (by rfl) (by kernel_rfl) (by kernel_rfl) (by kernel_rfl) (fun _ _ _ h => h) (Or.inl ⟨by kernel_rfl, (fun W hw => by clear hw; go_simp)⟩) hS ?_
  simp only [Act.put, List.setIfInBounds_toArray, List.set_cons_zero, List.set_cons_succ]
  refine any_take (i := 3) (some 8) (.map (some mb)) rfl (by rfl) (by kernel_rfl) (by kernel_rfl) (by kernel_rfl) (fun _ _ _ h => h) (Or.inl ⟨by kernel_rfl, (fun W hw => by obtain ⟨n0_, n1_, n2_⟩ := EX.out W hw; clear hw; go_simp)⟩) hS ?_
  simp only [Act.put, List.setIfInBounds_toArray, List.set_cons_zero, List.set_cons_succ]
  refine any_take (i := 4) (some 9) (.agg #[.pointer (some ⟨cb, 0, none⟩), .int .i64 (r : Nat)]) rfl (by rfl) (by kernel_rfl) (by kernel_rfl) (by kernel_rfl) (fun _ _ _ h => h) (Or.inl ⟨by kernel_rfl, (fun W hw => by obtain ⟨n0_, n1_, n2_⟩ := EX.out W hw; clear hw; go_simp)⟩) hS ?_
  simp only [Act.put, List.setIfInBounds_toArray, List.set_cons_zero, List.set_cons_succ]
  refine wpAnyH_all (rs := [5]) (by kernel_rfl) (by simp) fun q' hq' => ?_
  obtain rfl : q' = 5 := by simpa using hq'
  refine ops_call (d := some 10) rfl (by rfl) (by kernel_rfl) (by go_simp) ((HID.out _ hB).mono ?_)
  rintro x w5 ⟨rfl, hb5⟩
  have hB5 : Below Z.heap.size Z w5 := hB.trans (hb5.mono hB.size)
  have hS5 : Else (fun k => k = mb) Z w5 := Else.of_below hB5
  refine ⟨_, rfl, hS5, ?_⟩
  simp only [Act.put, List.setIfInBounds_toArray, List.set_cons_zero, List.set_cons_succ]
  obtain ⟨q, hmap⟩ := HZ.out.2.2.2.1.2
  have hrw : (Lit.int .i64 (r : Nat)).wf = true := by have h := wrap64_wf (r : Nat); rwa [IntWalk.wrap64_in _ (by have := HH.out.2.2.2.2.2.2.2.1; omega)] at h
  obtain ⟨w6, hrun, hm6, hg6, _, _⟩ := (hmap.below hB5).put endsTy (by have := HH.out.2.2.2.2.2.2.2.2.1; omega) (r : Nat) hrw (.bool false)
  rw [endF_upd] at hm6
  have hE6 : Else (fun k => k = mb) w5 w6 := Else.grown hg6 fun k hk => by cases hk; rfl
  have hS6 : Else (fun k => k = mb) Z w6 := hS5.trans hE6
  have hm6' : ∃ S, MapF (endF (upe e r false)) S (m + 1) mb w6 := ⟨_, hm6⟩
  have HM6 := Lib.hid (And.intro hm6' hS6)
  clear hm6 hm6' hmap hg6 hE6 hrw
  refine wpAnyH_all (rs := [6]) (by kernel_rfl) (by simp) fun q' hq' => ?_
  obtain rfl : q' = 6 := by simpa using hq'
  refine ops_skip (w' := w6) rfl (by kernel_rfl) (by clear hS hS5 hB hB5 hb5; go_simp) hS6 rfl ?_
  refine wpAnyH_done (by kernel_rfl) ?_ _
  clear hrun hS hS5 hS6 hB hB5 hb5 EX HID
  have hap := HH.out.2.2.1
  have hwm := HZ.out.2.2.2.2.2
  have h13 := HZ.out.2.2.1.size
  have hb1 : w6.heap[w.heap.size]? = some (Obj.cells #[.pointer (some ⟨cb, 0, none⟩), .int .i64 (r : Nat)] 78) := (HM6.out.2.block _ (Array.getElem?_eq_some_iff.1 HZ.out.1).1 (fun h => by omega)).trans HZ.out.1
  have hb2 : w6.heap[w.heap.size + 1]? = some (Obj.cells #[.pointer none, .int .i64 0, .slice none 0 0, .int .i64 0] 81) := (HM6.out.2.block _ (Array.getElem?_eq_some_iff.1 HZ.out.2.1).1 (fun h => by omega)).trans HZ.out.2.1
  have hC6 : ClM O w6 cb A st false n G kn nx col ro fs := HZ.out.2.2.2.2.1.aside HM6.out.2 fun k hk he => (hap k hk).2 he
  have hwS : ∀ k, A.S k → k < w.heap.size := fun k hk => HH.out.1.lt (.inr (.inl hk))
  have EZ : Hid (∀ W, Else (fun k => A.S k ∨ k = w.heap.size + 1) w6 W → W.cell? ⟨w.heap.size, 0, none⟩ = some (.pointer (some ⟨cb, 0, none⟩)) ∧ W.cell? ⟨w.heap.size, 1, none⟩ = some (.int .i64 (r : Nat))) := Lib.hid fun W hW => by
    have hb := (hW.block _ (Array.getElem?_eq_some_iff.1 hb1).1 (fun h => by rcases h with h | h; (have := hwS _ h; omega); omega)).trans hb1
    exact ⟨cell_of_row W _ 0 _ _ (0, 0) hb, cell_of_row W _ 1 _ _ (0, 0) hb⟩
  have HPP := Lib.hid (pparts_cl (hC6.below (Below.refl _ w6).drew) (by have := HH.out.2.2.2.2.1; omega) HH.out.2.2.2.2.2.1 r HH.out.2.2.2.2.2.2.1 HH.out.2.2.2.2.2.2.2.2.2)
  have H6 := Lib.hid (And.intro hb2 (And.intro hC6 hwS))
  clear hap hwm h13 hb1 hb2 hC6 hwS
  go_wp2_with fail
  have hS : Else A.S w6 w6.drew := Un.Else.drew (Else.refl _ _)
  have hSS : Else (fun k => A.S k ∨ k = w.heap.size + 1) w6 w6.drew := hS.mono fun k hk => .inl hk
  refine wp_region_held (S := (fun W => Else (fun k => A.S k ∨ k = w.heap.size + 1) w6 W)) (by kernel_rfl) ?_
  change wpAnyH _ _ _ _ _ 5 (List.replicate 5 false).toArray _ w6.drew
  simp only [List.replicate_succ, List.replicate_zero]
  refine any_take (i := 0) (some 11) (.agg #[.pointer (some ⟨cb, 0, none⟩), .int .i64 (r : Nat)]) rfl (by rfl) (by kernel_rfl) (by kernel_rfl) (by kernel_rfl) (fun _ _ _ h => h) (Or.inl ⟨by kernel_rfl, (fun W hw => by obtain ⟨n0_, n1_⟩ := EZ.out W hw; clear hw; go_simp)⟩) hSS ?_
  simp only [Act.put, List.setIfInBounds_toArray, List.set_cons_zero, List.set_cons_succ]
  refine any_take (i := 1) (some 12) (.agg #[.pointer (some ⟨cb, 0, none⟩), .int .i64 (r : Nat)]) rfl (by rfl) (by kernel_rfl) (by kernel_rfl) (by kernel_rfl) (fun _ _ _ h => h) (Or.inl ⟨by kernel_rfl, (fun W hw => by obtain ⟨n0_, n1_⟩ := EZ.out W hw; clear hw; go_simp)⟩) hSS ?_
  simp only [Act.put, List.setIfInBounds_toArray, List.set_cons_zero, List.set_cons_succ]
  refine wpAnyH_all (rs := [2]) (by kernel_rfl) (by simp) fun q' hq' => ?_
  obtain rfl : q' = 2 := by simpa using hq'
  refine ops_call (d := some 13) rfl (by rfl) (by kernel_rfl) (by go_simp) ((show Calls _ _ #[.agg #[.pointer (some ⟨cb, 0, none⟩), .int .i64 (r : Nat)]] _ _ from HPP.out).mono ?_)
  rintro x w7 ⟨v7, k7, rfl, ho7, hk7, hC7, hE7⟩
  obtain ⟨Ap, cp, rfl, _, _⟩ := Un.own_form ho7
  have hE67 : Else A.S w6 w7 := hS.trans hE7
  have hSS7 : Else (fun k => A.S k ∨ k = w.heap.size + 1) w6 w7 := hE67.mono fun k hk => .inl hk
  refine ⟨_, rfl, hSS7, ?_⟩
  simp only [Act.put, List.setIfInBounds_toArray, List.set_cons_zero, List.set_cons_succ]
  obtain ⟨q, hq⟩ : ∃ q, (partsO G (kn r).1).length = q := ⟨_, rfl⟩
  rw [hq]
  refine any_take (i := 3) (some 14) (.agg #[.pointer (some ⟨cb, 0, none⟩), .int .i64 (r : Nat), .slice Ap q cp, .int .i64 0]) rfl (by rfl) (by kernel_rfl) (by kernel_rfl) (by kernel_rfl) (fun _ _ _ h => h) (Or.inl ⟨by kernel_rfl, (fun W hw => by clear hw; go_simp)⟩) hSS7 ?_
  simp only [Act.put, List.setIfInBounds_toArray, List.set_cons_zero, List.set_cons_succ]
  have hb7 : w7.heap[w.heap.size + 1]? = some (Obj.cells #[.pointer none, .int .i64 0, .slice none 0 0, .int .i64 0] 81) := (hE67.block _ (Array.getElem?_eq_some_iff.1 H6.out.1).1 (fun h => by have := H6.out.2.2 _ h; omega)).trans H6.out.1
  have hgl := (Array.getElem?_eq_some_iff.1 hb7).1
  have d0 : w7.cell? ⟨w.heap.size + 1, 0, none⟩ = some (.pointer none) := cell_of_row w7 _ 0 _ _ (0, 0) hb7
  have d1 : w7.cell? ⟨w.heap.size + 1, 1, none⟩ = some (.int .i64 0) := cell_of_row w7 _ 1 _ _ (0, 0) hb7
  have d2 : w7.cell? ⟨w.heap.size + 1, 2, none⟩ = some (.slice none 0 0) := cell_of_row w7 _ 2 _ _ (0, 0) hb7
  have d3 : w7.cell? ⟨w.heap.size + 1, 3, none⟩ = some (.int .i64 0) := cell_of_row w7 _ 3 _ _ (0, 0) hb7
  have z0 : w7.frozen? ⟨w.heap.size + 1, 0, none⟩ = false := by simp [World.frozen?, hb7]
  have z1 : w7.frozen? ⟨w.heap.size + 1, 1, none⟩ = false := by simp [World.frozen?, hb7]
  have z2 : w7.frozen? ⟨w.heap.size + 1, 2, none⟩ = false := by simp [World.frozen?, hb7]
  have z3 : w7.frozen? ⟨w.heap.size + 1, 3, none⟩ = false := by simp [World.frozen?, hb7]
  obtain ⟨w8, hw8⟩ : ∃ w8, (((w7.setCell ⟨w.heap.size + 1, 0, none⟩ (.pointer (some ⟨cb, 0, none⟩))).setCell ⟨w.heap.size + 1, 1, none⟩ (.int .i64 (r : Nat))).setCell ⟨w.heap.size + 1, 2, none⟩ (.slice Ap q cp)).setCell ⟨w.heap.size + 1, 3, none⟩ (.int .i64 0) = w8 := ⟨_, rfl⟩
  have hE8 : Else (fun k => k = w.heap.size + 1) w7 w8 := by
    rw [← hw8]
    exact (((Un.Else.set (S := fun k => k = w.heap.size + 1) w7 (p := ⟨w.heap.size + 1, 0, none⟩) rfl _).trans (Un.Else.set (S := fun k => k = w.heap.size + 1) _ (p := ⟨w.heap.size + 1, 1, none⟩) rfl _)).trans (Un.Else.set (S := fun k => k = w.heap.size + 1) _ (p := ⟨w.heap.size + 1, 2, none⟩) rfl _)).trans (Un.Else.set (S := fun k => k = w.heap.size + 1) _ (p := ⟨w.heap.size + 1, 3, none⟩) rfl _)
  have hb8 : w8.heap[w.heap.size + 1]? = some (Obj.cells #[.pointer (some ⟨cb, 0, none⟩), .int .i64 (r : Nat), .slice Ap q cp, .int .i64 0] 81) := by
    rw [← hw8]
    exact heap_setCell_same _ _ 3 _ _ _ (heap_setCell_same _ _ 2 _ _ _ (heap_setCell_same _ _ 1 _ _ _ (heap_setCell_same _ _ 0 _ _ _ hb7)))
  have hSS8 : Else (fun k => A.S k ∨ k = w.heap.size + 1) w6 w8 := hSS7.trans (hE8.mono fun k hk => .inr hk)
  have H8 := Lib.hid (And.intro ho7 (And.intro hk7 (And.intro hC7 (And.intro hE67 (And.intro hE8 (And.intro hb8 hq))))))
  refine wpAnyH_all (rs := [4]) (by kernel_rfl) (by simp) fun q' hq' => ?_
  obtain rfl : q' = 4 := by simpa using hq'
  refine ops_skip (w' := w8) rfl (by kernel_rfl) (by clear hS hSS hSS7 hE8 hb8 hSS8 hE67 hE7 hb7 ho7 hC7 hk7 hq; go_simp) hSS8 rfl ?_
  refine wpAnyH_done (by kernel_rfl) ?_ _
  clear hS hSS hSS7 hE8 hb8 hSS8 hE67 hE7 hb7 ho7 hC7 hk7 hq d0 d1 d2 d3 z0 z1 z2 z3 hw8 EZ
  go_wp2_with fail
  obtain ⟨ho7, hk7, hC7, hE67, hE8, hb8, hq⟩ := H8.out
  have hsz : w.heap.size + 1 < w6.heap.size := (Array.getElem?_eq_some_iff.1 H6.out.1).1
  have hap := HH.out.2.2.1
  have hW6 : WkM w6 wb mb (upe e r false) sp (m + 1) := ⟨(HM6.out.2.block _ (Array.getElem?_eq_some_iff.1 HZ.out.2.2.2.1.1).1 (fun h => HH.out.2.2.2.1 h)).trans HZ.out.2.2.2.1.1, HM6.out.1⟩
  have hW7 := hW6.keep hE67 (fun h => (hap wb (.inr (.inl h))).1 rfl) (fun h => (hap mb (.inr (.inl h))).2 rfl)
  have hlt := HH.out.2.1.lt
  have hW8 := hW7.keep hE8 (fun h => by omega) (fun h => by omega)
  have hC8 := hC7.aside hE8 fun k hk h => by have := HH.out.1.lt hk; omega
  refine bodyPost_ret (results_box rfl _ _ (w.heap.size + 1) (.agg #[.pointer (some ⟨cb, 0, none⟩), .int .i64 (r : Nat), .slice Ap q cp, .int .i64 0]) rfl (load_class (cell_of_row w8 _ 0 _ _ (0, 0) hb8) (cell_of_row w8 _ 1 _ _ (0, 0) hb8) (cell_of_row w8 _ 2 _ _ (0, 0) hb8) (cell_of_row w8 _ 3 _ _ (0, 0) hb8))) rfl ⟨_, k7, rfl, ?_, hW8, hk7, hC8, ?_⟩
  · rw [hq] at ho7 ⊢
    exact own_mono (own_else ho7 hE8 fun g hg h => by have h1 : w6.heap.size ≤ g := (ho7.lt g hg).1; omega) (by show w.heap.size ≤ w6.heap.size; omega)
  · exact ((((Else.of_below (S := fun k => (A.S k ∨ k = mb) ∨ k = w.heap.size + 1) HZ.out.2.2.1).trans (HM6.out.2.mono fun k hk => .inl (.inr hk))).trans (hE67.mono fun k hk => .inl (.inl hk))).trans (hE8.mono fun k hk => .inr hk)).old fun k hk => hk.imp id fun h => by omega
end CyAs
end Go.Proofs.YtojgiienohpaiaaGreat
namespace Go.Proofs.YtojgiienohpaiaaGreat
open Go.RowKit
open Un (Else StM rowI UFo own_else dg swp wp_world paint)
attribute [local go_sem] Oper.semAt_some
attribute [local go_sem ↓] builtin_app
set_option maxRecDepth 100000
abbrev Fr := Nat × Nat × Sl
def frC (cb : Nat) (x : Fr) : List Value := [.pointer (some ⟨cb, 0, none⟩), .int .i64 (x.1 : Nat), slv x.2.2, .int .i64 (x.2.1 : Nat)]
def frs (cb : Nat) (S : List Fr) : List Value := S.flatMap (frC cb)
theorem frs_app (cb : Nat) (S : List Fr) (x : Fr) : frs cb (S ++ [x]) = frs cb S ++ frC cb x := by simp [frs]
theorem frs_len (cb : Nat) (S : List Fr) : (frs cb S).length = S.length * 4 := by
  induction S with
  | nil => rfl
  | cons x S ih =>
    have e : frs cb (x :: S) = frC cb x ++ frs cb S := by simp [frs]
    rw [e, List.length_append, ih, List.length_cons]
    show 4 + S.length * 4 = (S.length + 1) * 4
    omega
theorem frs_last (cb : Nat) (S : List Fr) (x : Fr) (j : Nat) (hj : j < 4) : (frs cb (S ++ [x]))[S.length * 4 + j]? = (frC cb x)[j]? := by
  rw [frs_app, List.getElem?_append_right (by rw [frs_len]; omega), frs_len]
  congr 1
  omega
theorem frs_step (cb : Nat) (S : List Fr) (r k : Nat) (P : Sl) : (frs cb (S ++ [(r, k, P)])).set (S.length * 4 + 3) (.int .i64 ((k + 1 : Nat) : Int)) = frs cb (S ++ [(r, k + 1, P)]) := by
  rw [frs_app, frs_app, List.set_append_right _ _ (by rw [frs_len]; omega), frs_len]
  congr 1
  rw [show S.length * 4 + 3 - S.length * 4 = 3 by omega]
  rfl
theorem frInfo : (Tryz.prog.info? 81).map (fun i => (i.zero, i.size, i.bytes)) = some (some (.agg #[.pointer none, .int .i64 0, .slice none 0 0, .int .i64 0]), 4, 48) := by kernel_rfl
theorem app_fr (W : World) (v : Value) (cb : Nat) (T : List Fr) (base : Nat) (hb : base ≤ W.heap.size) (hown : W.ownsRow base 81 4 v T.length (frs cb T)) (x : Fr) (hm : T.length ≤ 1000000) :
    ∃ g cp w1, (app_ #[132, 132] 132 #[v, .slice (some ⟨W.heap.size, 0, none⟩) 1 1]).run Tryz.prog (W.alloc (.cells #[.pointer (some ⟨cb, 0, none⟩), .int .i64 (x.1 : Nat), slv x.2.2, .int .i64 (x.2.1 : Nat)] 81)) = .ok (.slice (some ⟨g, 0, none⟩) (T.length + 1) cp) w1 ∧
      w1.ownsRow base 81 4 (.slice (some ⟨g, 0, none⟩) (T.length + 1) cp) (T ++ [x]).length (frs cb (T ++ [x])) ∧ (W.alloc (.cells #[.pointer (some ⟨cb, 0, none⟩), .int .i64 (x.1 : Nat), slv x.2.2, .int .i64 (x.2.1 : Nat)] 81)).grownBy w1 v.ownBlock ∧ (v.ownBlock = some g ∨ g = W.heap.size + 1) := by
  obtain ⟨r, k, P1, P2, P3⟩ := x
  obtain ⟨i0, hi0, hz0, hz1, hz2⟩ := Un.info_parts frInfo
  have rd1 : Rd (W.alloc (.cells #[.pointer (some ⟨cb, 0, none⟩), .int .i64 (r : Nat), .slice P1 P2 P3, .int .i64 (k : Nat)] 81)) 4 (.slice (some ⟨W.heap.size, 0, none⟩) 1 1) 1 [.pointer (some ⟨cb, 0, none⟩), .int .i64 (r : Nat), .slice P1 P2 P3, .int .i64 (k : Nat)] := rd_new W [.pointer (some ⟨cb, 0, none⟩), .int .i64 (r : Nat), .slice P1 P2 P3, .int .i64 (k : Nat)] 81 4 1 rfl (by unfold maxLen; omega)
  obtain ⟨v', w1, hrun, hown1, hg1, hat⟩ := run_append_rd (P := Tryz.prog) _ base 132 132 81 i0 _ 4 48 Tryz.underlying132 hi0 hz0 hz1 hz2 rfl (by omega) v T.length (frs cb T) (hown.alloc _) _ 1 _ rd1 (by simp [Value.oneCell']) (by unfold maxLen; omega) (by omega) (by simp; omega)
  obtain ⟨g, cp, rfl, _, _⟩ := Un.own_shape hown1 (by omega)
  refine ⟨g, cp, w1, hrun, ?_, hg1, ?_⟩
  · rw [frs_app, List.length_append]; exact hown1
  rcases hat with e | e
  · exact .inl e.symm
  · right
    have e : some g = some (W.heap.size + 1) := by rw [← World.size_alloc W (.cells #[.pointer (some ⟨cb, 0, none⟩), .int .i64 (r : Nat), .slice P1 P2 P3, .int .i64 (k : Nat)] 81)]; exact e
    injection e
theorem pop_fr {w : World} {base g c cb : Nat} {T : List Fr} {x : Fr} (h : w.ownsRow base 81 4 (.slice (some ⟨g, 0, none⟩) (T ++ [x]).length c) (T ++ [x]).length (frs cb (T ++ [x]))) : w.ownsRow base 81 4 (.slice (some ⟨g, 0, none⟩) T.length c) T.length (frs cb T) := by
  rw [frs_app] at h
  exact own_cut h T.length (by simp) (frs_len cb T)
end Go.Proofs.YtojgiienohpaiaaGreat
namespace Go.Proofs.YtojgiienohpaiaaGreat
open Go.RowKit
theorem eval_put_ne {a : Act} {d t : Nat} (v : Value) (h : d ≠ t) : (a.put (some d) v).eval (.tmp t) = a.eval (.tmp t) := by
  simp only [Act.put, Act.eval, Array.getD_eq_getD_getElem?]
  rw [Array.getElem?_setIfInBounds_ne h]
theorem eval_put_same {a : Act} {d : Nat} (v : Value) (h : d < a.tmps.size) : (a.put (some d) v).eval (.tmp d) = v := by
  simp [Act.put, Act.eval, h]
theorem put_comm (a : Act) {d d' : Nat} (h : d ≠ d') (v v' : Value) : (a.put (some d) v).put (some d') v' = (a.put (some d') v').put (some d) v := by
  simp only [Act.put]
  rw [Array.setIfInBounds_comm _ _ h]
theorem put_size (a : Act) (d : Option Tmp) (v : Value) : (a.put d v).tmps.size = a.tmps.size := by
  cases d <;> simp [Act.put]
theorem wanted_none {o : Oper} (h : o.guard = none) (y : Nat → Option Bool) : Region.wanted o y = true := by simp [Region.wanted, h]
section
variable {P : Program} {ops : Array Oper} {Q : Exit → Act → World → Prop} {md : Region.Mode}
theorem exec_append {o : Oper} {a : Act} {s x : Operand} {t : TypeId} {vs vx v' : Value} {w w' : World} (ho : o.op = .call { callee := .builtin .append, args := #[s, x], argTypes := #[t, t] }) (hs : a.eval s = vs) (hx : a.eval x = vx)
    (hrun : (Builtin.append_ #[t, t] o.type #[vs, vx]).run P w = .ok v' w') : (execOp a.eval o).run P w = .ok (.value v') w' := by
  unfold execOp
  simp only [ho, resolve, invoke, builtin, Sem.run_bind, Sem.run_pure, Result.andThen_ok, List.map_toArray, List.map_cons, List.map_nil, hs, hx, hrun]
theorem any_copy {W0 : World} {i0 i1 i2 i3 : Nat} {o0 o1 o2 o3 : Oper} {d0 d1 d2 d3 ts : Nat} {fuel : Nat} {listed : Array Bool} {a : Act} {w : World} {t e : TypeId} {ti : TypeInfo} {z : Value} {size bytes : Nat}
    (g0 : ops[i0]? = some o0) (g1 : ops[i1]? = some o1) (g2 : ops[i2]? = some o2) (g3 : ops[i3]? = some o3)
    (e0 : o0.dst = some d0) (e1 : o1.dst = some d1) (e2 : o2.dst = some d2) (e3 : o3.dst = some d3)
    (n0 : o0.guard = none) (n1 : o1.guard = none) (n2 : o2.guard = none) (n3 : o3.guard = none)
    (ne : i0 ≠ i1 ∧ i0 ≠ i2 ∧ i1 ≠ i2) (de : d0 ≠ d1 ∧ d0 ≠ d2 ∧ d1 ≠ d2 ∧ d0 ≠ ts ∧ d1 ≠ ts ∧ d2 ≠ ts) (hsz : d0 < a.tmps.size ∧ d1 < a.tmps.size ∧ d2 < a.tmps.size)
    (r0 : Region.ready md ops listed = [i0, i2]) (r1 : Region.ready md ops (listed.setIfInBounds i0 true) = [i1, i2]) (r2 : Region.ready md ops (listed.setIfInBounds i2 true) = [i0])
    (r3 : Region.ready md ops ((listed.setIfInBounds i0 true).setIfInBounds i1 true) = [i2]) (r4 : Region.ready md ops ((listed.setIfInBounds i0 true).setIfInBounds i2 true) = [i1])
    (r5 : Region.ready md ops (((listed.setIfInBounds i0 true).setIfInBounds i1 true).setIfInBounds i2 true) = [i3])
    (ht : P.underlying t = some (.slice e)) (hi : P.info? e = some ti) (hz : ti.zero = some z) (hs : ti.size = size) (hb : ti.bytes = bytes) (hzs : z.cells.size = size) (hpos : 0 < size)
    (x0 : ∀ (ev : Operand → Value) (w : World), (execOp ev o0).run P w = .ok (.value (.slice (some ⟨w.heap.size, 0, none⟩) 0 0)) (w.alloc (.cells #[] e)))
    (new : List Value) (hnew : new.length = 1 * size) (hno : ∀ u ∈ new, u.oneCell' = true)
    (x2 : ∀ (a' : Act), (∀ q, q ≠ d0 → q ≠ d1 → a'.eval (.tmp q) = a.eval (.tmp q)) → ∀ w : World, (execOp a'.eval o2).run P w = .ok (.value (.slice (some ⟨w.heap.size, 0, none⟩) 1 1)) (w.alloc (.cells new.toArray e)))
    (x1 : o1.op = .call { callee := .builtin .append, args := #[.tmp d0, .tmp ts], argTypes := #[t, t] }) (y1 : o1.type = t)
    (x3 : o3.op = .call { callee := .builtin .append, args := #[.tmp d1, .tmp d2], argTypes := #[t, t] }) (y3 : o3.type = t)
    {vs : Value} {n : Nat} {xs : List Value} (hev : a.eval (.tmp ts) = vs) (hR : Rd w size vs n xs) (hxo : ∀ u ∈ xs, u.oneCell' = true) (hn : n + 1 ≤ maxLen) (hby : (n + 1) * bytes ≤ 140737488355328)
    (hS : LS W0 w)
    (hk : ∀ v0 v1 v2 v3 w', LS W0 w' → Below w.heap.size w w' → w'.ownsRow w.heap.size e size v3 (n + 1) (xs ++ new) →
      wpAnyH P md ops Q (LS W0) fuel ((((listed.setIfInBounds i0 true).setIfInBounds i1 true).setIfInBounds i2 true).setIfInBounds i3 true) ((((a.put (some d0) v0).put (some d1) v1).put (some d2) v2).put (some d3) v3) w') :
    wpAnyH P md ops Q (LS W0) (fuel + 4) listed a w := by
  obtain ⟨ne1, ne2, ne3⟩ := ne
  obtain ⟨de1, de2, de3, de4, de5, de6⟩ := de
  obtain ⟨s0, s1, s2⟩ := hsz
  have hw0 := hS.size
  have lb : ∀ W, Below w.heap.size w W → LS W0 W := fun W h => Below.trans hS (h.mono hw0)
  -- the end: both rows stand
  have fin : ∀ (v0 v1 v2 : Value) (W : World), Below w.heap.size w W → W.ownsRow w.heap.size e size v1 n xs → Rd W size v2 1 new →
      wpAnyH P md ops Q (LS W0) (fuel + 1) (((listed.setIfInBounds i0 true).setIfInBounds i1 true).setIfInBounds i2 true) (((a.put (some d0) v0).put (some d1) v1).put (some d2) v2) W := by
    intro v0 v1 v2 W hB hO hX
    obtain ⟨v3, w3, hr3, ho3, hg3, -⟩ := run_append_rd (P := P) W w.heap.size t t e ti z size bytes ht hi hz hs hb hzs hpos v1 n xs hO v2 1 new hX hno hn hby hB.size
    have hb3 : Below w.heap.size w w3 := hB.grown hg3 hB.size (fun b h => (hO.lt b h).1)
    refine wpAnyH_all r5 (by simp) fun q hq => ?_
    obtain rfl : q = i3 := by simpa using hq
    refine ops_val g3 e3 (wanted_none n3 _) (exec_append x3 ?_ ?_ (by rw [y3]; exact hr3)) (lb _ hb3) (hk v0 v1 v2 v3 w3 (lb _ hb3) hb3 ho3)
    · rw [eval_put_ne _ (Ne.symm de3), eval_put_same _ (by rw [put_size]; exact s1)]
    · rw [eval_put_same _ (by rw [put_size, put_size]; exact s2)]
  have copy : ∀ (W : World), Below w.heap.size w W → ∀ v0, W.ownsRow w.heap.size e size v0 0 [] → ∃ v1 w1, (Builtin.append_ #[t, t] t #[v0, vs]).run P W = .ok v1 w1 ∧ w1.ownsRow w.heap.size e size v1 n xs ∧ W.grownBy w1 v0.ownBlock ∧ Below w.heap.size w w1 := by
    intro W hB v0 hO
    obtain ⟨v1, w1, h1, h2, h3, -⟩ := run_append_rd (P := P) W w.heap.size t t e ti z size bytes ht hi hz hs hb hzs hpos v0 0 [] hO vs n xs (hR.below hB) hxo (by omega) (by rw [Nat.zero_add]; exact Nat.le_trans (Nat.mul_le_mul_right _ (Nat.le_succ n)) hby) hB.size
    rw [Nat.zero_add, List.nil_append] at h2
    exact ⟨v1, w1, h1, h2, h3, hB.grown h3 hB.size (fun b h => (hO.lt b h).1)⟩
  have newR : ∀ W : World, Rd (W.alloc (.cells new.toArray e)) size (.slice (some ⟨W.heap.size, 0, none⟩) 1 1) 1 new := fun W => rd_new W new e size 1 hnew (by unfold maxLen; omega)
  have al : ∀ (W : World) o, Below w.heap.size w W → Below w.heap.size w (W.alloc o) := fun W o h => h.alloc h.size o
  refine wpAnyH_all r0 (by simp) fun q hq => ?_
  rcases (by simpa using hq : q = i0 ∨ q = i2) with rfl | rfl
  · have hO := own_none_yet w w.heap.size (Nat.le_refl _) e size
    have hB1 := al w (.cells #[] e) (Below.refl _ _)
    refine ops_val g0 e0 (wanted_none n0 _) (x0 _ _) (lb _ hB1) ?_
    refine wpAnyH_all r1 (by simp) fun q hq => ?_
    rcases (by simpa using hq : q = i1 ∨ q = i2) with rfl | rfl
    · obtain ⟨v1, w1, h1, h2, h3, h4⟩ := copy _ hB1 _ hO
      refine ops_val g1 e1 (wanted_none n1 _) (exec_append x1 (eval_put_same _ s0) ((eval_put_ne _ de4).trans hev) (by rw [y1]; exact h1)) (lb _ h4) ?_
      refine wpAnyH_all r3 (by simp) fun q hq => ?_
      obtain rfl : q = i2 := by simpa using hq
      refine ops_val g2 e2 (wanted_none n2 _) (x2 _ (fun q h0 h1 => by rw [eval_put_ne _ (Ne.symm h1), eval_put_ne _ (Ne.symm h0)]) _) (lb _ (al _ _ h4)) ?_
      exact fin _ _ _ _ (al _ _ h4) (h2.alloc _) (newR w1)
    · refine ops_val g2 e2 (wanted_none n2 _) (x2 _ (fun q h0 h1 => by rw [eval_put_ne _ (Ne.symm h0)]) _) (lb _ (al _ _ hB1)) ?_
      obtain ⟨v1, w1, h1, h2, h3, h4⟩ := copy _ (al _ (.cells new.toArray e) hB1) _ (hO.alloc _)
      refine wpAnyH_all r4 (by simp) fun q hq => ?_
      obtain rfl : q = i1 := by simpa using hq
      refine ops_val g1 e1 (wanted_none n1 _) (exec_append x1 ((eval_put_ne _ (Ne.symm de2)).trans (eval_put_same _ s0)) ((eval_put_ne _ de6).trans ((eval_put_ne _ de4).trans hev)) (by rw [y1]; exact h1)) (lb _ h4) ?_
      rw [Array.setIfInBounds_comm _ _ (Ne.symm ne3), put_comm _ (Ne.symm de3)]
      exact fin _ _ _ _ h4 h2 ((newR _).far (by simp) h3 (by simp [Value.ownBlock]))
  · have hB1 := al w (.cells new.toArray e) (Below.refl _ _)
    refine ops_val g2 e2 (wanted_none n2 _) (x2 _ (fun q _ _ => rfl) _) (lb _ hB1) ?_
    refine wpAnyH_all r2 (by simp) fun q hq => ?_
    obtain rfl : q = i0 := by simpa using hq
    have hO := own_none_yet (w.alloc (.cells new.toArray e)) w.heap.size (by simp) e size
    refine ops_val g0 e0 (wanted_none n0 _) (x0 _ _) (lb _ (al _ _ hB1)) ?_
    obtain ⟨v1, w1, h1, h2, h3, h4⟩ := copy _ (al _ (.cells #[] e) hB1) _ hO
    rw [Array.setIfInBounds_comm _ _ (Ne.symm ne2), put_comm _ (Ne.symm de2)]
    refine wpAnyH_all r4 (by simp) fun q hq => ?_
    obtain rfl : q = i1 := by simpa using hq
    refine ops_val g1 e1 (wanted_none n1 _) (exec_append x1 ((eval_put_ne _ (Ne.symm de2)).trans (eval_put_same _ s0)) ((eval_put_ne _ de6).trans ((eval_put_ne _ de4).trans hev)) (by rw [y1]; exact h1)) (lb _ h4) ?_
    rw [Array.setIfInBounds_comm _ _ (Ne.symm ne3), put_comm _ (Ne.symm de3)]
    refine fin _ _ _ _ h4 h2 (((newR _).alloc _).far (by simp; omega) h3 ?_)
    simp [Value.ownBlock]
end
end Go.Proofs.YtojgiienohpaiaaGreat
namespace Go.Proofs.YtojgiienohpaiaaGreat
abbrev Rn := Int × Int × Sl × Fo × List Nat
def rG (x : Rn) : Gn := (x.1, x.2.1, 1 + x.2.2.2.1.size, x.2.2.2.2)
def rnode (R : List Rn) (k n : Int) (u : Sl) (ps : Fo) (P : List Nat) : List Rn × Nat :=
  match (if k = 1 then gvar (R.map rG) n else none) with
  | some i => (R, i)
  | none => (R ++ [(k, n, u, ps, P)], R.length)
mutual
def radd1 (R : List Rn) (k n : Int) (u : Sl) (ps : Fo) : List Rn × Nat := let r := radd R ps; rnode r.1 k n u ps r.2
def radd (R : List Rn) : Fo → List Rn × List Nat
  | .nil => (R, [])
  | .cons k n u ps r => let x := radd1 R k n u ps; let y := radd x.1 r; (y.1, x.2 :: y.2)
end
theorem radd_nil (R : List Rn) : radd R .nil = (R, []) := by simp [radd]
theorem radd_cons (R : List Rn) (k n : Int) (u : Sl) (ps r : Fo) : radd R (.cons k n u ps r) = ((radd (radd1 R k n u ps).1 r).1, (radd1 R k n u ps).2 :: (radd (radd1 R k n u ps).1 r).2) := by simp [radd]
theorem radd1_eq (R : List Rn) (k n : Int) (u : Sl) (ps : Fo) : radd1 R k n u ps = rnode (radd R ps).1 k n u ps (radd R ps).2 := by simp [radd1]
theorem rnode_G (R : List Rn) (k n : Int) (u : Sl) (ps : Fo) (P : List Nat) (hs : gsum (R.map rG) P = ps.size) : (rnode R k n u ps P).1.map rG = (gnode (R.map rG) k n P).1 ∧ (rnode R k n u ps P).2 = (gnode (R.map rG) k n P).2 := by
  unfold rnode gnode
  cases (if k = 1 then gvar (R.map rG) n else none) with
  | some i => exact ⟨rfl, rfl⟩
  | none => simp [rG, hs]
theorem radd_G (F : Fo) : ∀ R, GI (R.map rG) → Vok F → (radd R F).1.map rG = (gadd (R.map rG) F).1 ∧ (radd R F).2 = (gadd (R.map rG) F).2 := by
  induction F with
  | nil => intro R _ _; rw [radd_nil, gadd_nil]; exact ⟨rfl, rfl⟩
  | cons k n u ps r i1 i2 =>
    intro R hG hv
    obtain ⟨h1, h2, h3⟩ := hv
    obtain ⟨a1, a2⟩ := i1 R hG h2
    have g1 := gadd_ok ps (R.map rG) hG h2
    have hk : k = 1 → (gadd (R.map rG) ps).2 = [] := fun h => by rw [h1 h, gadd_nil]
    have g2 := (gnode_ok (gadd (R.map rG) ps).1 k n (gadd (R.map rG) ps).2 g1.ok hk).2.1
    obtain ⟨b1, b2⟩ := rnode_G (radd R ps).1 k n u ps (radd R ps).2 (by rw [a1, a2]; exact g1.sum)
    rw [a1, ← radd1_eq, a2, ← gadd1_eq] at b1 b2
    rw [← gadd1_eq] at g2
    obtain ⟨c1, c2⟩ := i2 (radd1 R k n u ps).1 (by rw [b1]; exact g2) h3
    rw [radd_cons, gadd_cons, ← b1, ← b2]
    exact ⟨c1, by rw [c2]⟩
end Go.Proofs.YtojgiienohpaiaaGreat
namespace Go.Proofs.YtojgiienohpaiaaGreat
open Go.RowKit

def RoomIs (n deep : Nat) (f : Fo) (r : Int) : Prop :=
  -1 ≤ r ∧ r ≤ n ∧ (0 ≤ r → 1 + (f.size : Int) + r = n ∧ 1 + f.depth ≤ deep) ∧ (1 + f.size ≤ n → 1 + f.depth ≤ deep → r = (n : Int) - (1 + f.size))
theorem RoomIs.zero (n : Nat) (f : Fo) : RoomIs n 0 f (-1) := ⟨by omega, by omega, by omega, by omega⟩
end Go.Proofs.YtojgiienohpaiaaGreat
