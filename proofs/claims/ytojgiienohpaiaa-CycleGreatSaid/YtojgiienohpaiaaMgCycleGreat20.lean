/- Texts of one proof, one behind the other. -/
import Derived.Test.YtojgiienohpaiaaMgCycleGreat19
import Derived.Test.YtojgiienohpaiaaMgCycleGreat18
/- unify: a part's number, its least variable, its parts. -/
namespace Go.Proofs.Ytojgiienohpaiaa
open Go.RowKit
open Un (Else StM rowI UFo own_else dg swp wp_world paint)
attribute [local go_sem] Oper.semAt_some
attribute [local go_sem ↓] builtin_app
set_option maxRecDepth 100000
/-- Parts in a row: their roots. -/
def ptC (cb : Nat) (L : List Nat) : List Value := L.flatMap fun r => [.pointer (some ⟨cb, 0, none⟩), .int .i64 (r : Nat)]
theorem ptC_app (cb : Nat) (L : List Nat) (r : Nat) : ptC cb (L ++ [r]) = ptC cb L ++ [.pointer (some ⟨cb, 0, none⟩), .int .i64 (r : Nat)] := by simp [ptC]
theorem ptC_at (cb : Nat) (L : List Nat) (i r : Nat) (h : L[i]? = some r) : (ptC cb L)[i * 2]? = some (.pointer (some ⟨cb, 0, none⟩)) ∧ (ptC cb L)[i * 2 + 1]? = some (.int .i64 (r : Nat)) := by
  induction L generalizing i with
  | nil => simp at h
  | cons x L ih =>
    cases i with
    | zero =>
      simp only [List.getElem?_cons_zero, Option.some.injEq] at h
      subst h
      simp [ptC]
    | succ i =>
      simp only [List.getElem?_cons_succ] at h
      have := ih i h
      have e : ∀ j, (ptC cb (x :: L))[(i + 1) * 2 + j]? = (ptC cb L)[i * 2 + j]? := fun j => by
        unfold ptC
        rw [List.flatMap_cons, List.getElem?_append_right (by simp; omega)]
        congr 1
        simp; omega
      have e0 := e 0
      simp only [Nat.add_zero] at e0
      rw [e0, e 1]
      exact this
theorem ptInfo : (Try.prog.info? 76).map (fun i => (i.zero, i.size, i.bytes)) = some (some (.agg #[.pointer none, .int .i64 0]), 2, 16) := by kernel_rfl
theorem app_pt (W : World) (v : Value) (cb : Nat) (T : List Nat) (base : Nat) (hb : base ≤ W.heap.size) (hown : W.ownsRow base 76 2 v T.length (ptC cb T)) (x : Nat) (hm : T.length ≤ 100000) :
    ∃ g cp w1, (app_ #[77, 77] 77 #[v, .slice (some ⟨W.heap.size, 0, none⟩) 1 1]).run Try.prog (W.alloc (.cells #[.pointer (some ⟨cb, 0, none⟩), .int .i64 (x : Nat)] 76)) = .ok (.slice (some ⟨g, 0, none⟩) (T.length + 1) cp) w1 ∧
      w1.ownsRow base 76 2 (.slice (some ⟨g, 0, none⟩) (T.length + 1) cp) (T ++ [x]).length (ptC cb (T ++ [x])) ∧ (W.alloc (.cells #[.pointer (some ⟨cb, 0, none⟩), .int .i64 (x : Nat)] 76)).grownBy w1 v.ownBlock ∧ (v.ownBlock = some g ∨ g = W.heap.size + 1) := by
  obtain ⟨i0, hi0, hz0, hz1, hz2⟩ := Un.info_parts ptInfo
  have rd1 : Rd (W.alloc (.cells #[.pointer (some ⟨cb, 0, none⟩), .int .i64 (x : Nat)] 76)) 2 (.slice (some ⟨W.heap.size, 0, none⟩) 1 1) 1 [.pointer (some ⟨cb, 0, none⟩), .int .i64 (x : Nat)] := rd_new W [.pointer (some ⟨cb, 0, none⟩), .int .i64 (x : Nat)] 76 2 1 rfl (by unfold maxLen; omega)
  obtain ⟨v', w1, hrun, hown1, hg1, hat⟩ := run_append_rd (P := Try.prog) _ base 77 77 76 i0 _ 2 16 Try.underlying77 hi0 hz0 hz1 hz2 rfl (by omega) v T.length (ptC cb T) (hown.alloc _) _ 1 _ rd1 (by simp [Value.oneCell']) (by unfold maxLen; omega) (by omega) (by simp; omega)
  obtain ⟨g, cp, rfl, _, _⟩ := Un.own_shape hown1 (by omega)
  refine ⟨g, cp, w1, hrun, ?_, hg1, ?_⟩
  · rw [ptC_app, List.length_append]; exact hown1
  rcases hat with e | e
  · exact .inl e.symm
  · right
    have e : some g = some (W.heap.size + 1) := by rw [← World.size_alloc W (.cells #[.pointer (some ⟨cb, 0, none⟩), .int .i64 (x : Nat)] 76)]; exact e
    injection e
section PaAs
variable {O T : Nat → Prop} {w w' : World} {cb : Nat} {A : Adr} {st : Int} {cl : Bool} {n : Nat} {G : List Gn} {kn : Kn} {nx col ro : Nat → Nat} {fs : Int}
theorem pid_cl (h : ClM O w cb A st false n G kn nx col ro fs) (r : Nat) : Calls Try.prog 37 #[ptV (some cb) (r : Nat)] w fun e w' => e = .returned (.int .i64 (r : Nat)) ∧ Below w.heap.size w w' := by
  have hb0 : Below w.heap.size w (w.alloc (.cells #[.pointer (some ⟨cb, 0, none⟩), .int .i64 (r : Nat)] 76)) := (Below.refl _ _).alloc (Nat.le_refl _) _
  have HO := Lib.hid (holds_cl (h.below hb0) (r : Nat))
  have HX := Lib.hid (And.intro (heap_alloc_new w (.cells #[.pointer (some ⟨cb, 0, none⟩), .int .i64 (r : Nat)] 76)) hb0)
  show Calls _ _ #[.agg #[.pointer (some ⟨cb, 0, none⟩), .int .i64 (r : Nat)]] _ _
  clear h hb0
  go_enter Try.func37, Try.ntmps37
  go_wp2_with fail
  refine (show Calls _ _ #[.agg #[.pointer (some ⟨cb, 0, none⟩), .int .i64 (r : Nat)]] _ _ from HO.out).mono ?_
  rintro e w2 ⟨rfl, hb⟩
  have hx2 := (hb.block _ (by simp)).trans HX.out.1
  have d0 : w2.cell? ⟨w.heap.size, 0, none⟩ = some (.pointer (some ⟨cb, 0, none⟩)) := cell_of_row w2 _ 0 _ _ (0, 0) hx2
  have d1 : w2.cell? ⟨w.heap.size, 1, none⟩ = some (.int .i64 (r : Nat)) := cell_of_row w2 _ 1 _ _ (0, 0) hx2
  have hl := (Array.getElem?_eq_some_iff.1 hx2).1
  have HB := Lib.hid (HX.out.2.trans (hb.mono (by simp)))
  clear hb hx2 HO HX
  go_wp2_with fail
  exact bodyPost_ret (results_tmp rfl _ _ _) rfl ⟨rfl, HB.out⟩
/-- A class's least variable, or -1. -/
def leastV (G : List Gn) : Option Nat → Int
  | some l => nmG G l
  | none => -1
set_option maxHeartbeats 4000000 in
theorem pparts_cl (h : ClM O w cb A st false n G kn nx col ro fs) (hst : 0 ≤ fs ∧ fs ≤ 1000000000000) (hdg : dg n ≤ 21) (r : Nat) (hr : r < n) (hP : ∀ p ∈ G, p.2.2.2.length ≤ 8 ∧ ∀ u ∈ p.2.2.2, u < n) : Calls Try.prog 82 #[ptV (some cb) (r : Nat)] w fun e w' => ∃ (v : Value) (k : Nat), e = .returned v ∧ w'.ownsRow w.heap.size 76 2 v (partsO G (kn r).1).length (ptC cb ((partsO G (kn r).1).map ro)) ∧ k ≤ 168 ∧ ClM O w' cb A st false n G kn nx col ro (fs + k) ∧ Else A.S w w' := by
  have hPl : (partsO G (kn r).1).length ≤ 8 ∧ ∀ u ∈ partsO G (kn r).1, u < n := by
    cases (kn r).1 with
    | none => exact ⟨by simp [partsO], fun u hu => by simp [partsO] at hu⟩
    | some i =>
      cases hg : G[i]? with
      | none => exact ⟨by simp [partsO, hg], fun u hu => by simp [partsO, hg] at hu⟩
      | some p =>
        have e : partsO G (some i) = p.2.2.2 := by simp [partsO, hg]
        rw [e]
        exact hP p (List.mem_of_getElem? hg)
  obtain ⟨P, hPe⟩ : ∃ P, partsO G (kn r).1 = P := ⟨_, rfl⟩
  rw [hPe] at hPl ⊢
  have HPQ := Lib.hid hPe
  have HP8 := Lib.hid hP
  have HST := Lib.hid (And.intro hst hdg)
  clear hPe hP hst hdg
  have hb0 : Below w.heap.size w (w.alloc (.cells #[.pointer (some ⟨cb, 0, none⟩), .int .i64 (r : Nat)] 76)) := (Below.refl _ _).alloc (Nat.le_refl _) _
  have h1 := h.below hb0
  have HO := Lib.hid (holds_cl h1 (r : Nat))
  have hx := heap_alloc_new w (.cells #[.pointer (some ⟨cb, 0, none⟩), .int .i64 (r : Nat)] 76)
  have HH := Lib.hid (And.intro h1 (And.intro hx (And.intro hb0 h)))
  show Calls _ _ #[.agg #[.pointer (some ⟨cb, 0, none⟩), .int .i64 (r : Nat)]] _ _
  clear h h1 hb0 hx
  go_enter Try.func82, Try.ntmps82
  go_wp2_with fail
  refine (show Calls _ _ #[.agg #[.pointer (some ⟨cb, 0, none⟩), .int .i64 (r : Nat)]] _ _ from HO.out).mono ?_
  rintro e w2 ⟨rfl, hb⟩
  have hC := HH.out.1.below hb
  have hx2 := (hb.block _ (by simp)).trans HH.out.2.1
  have d0 : w2.cell? ⟨w.heap.size, 0, none⟩ = some (.pointer (some ⟨cb, 0, none⟩)) := cell_of_row w2 _ 0 _ _ (0, 0) hx2
  have d1 : w2.cell? ⟨w.heap.size, 1, none⟩ = some (.int .i64 (r : Nat)) := cell_of_row w2 _ 1 _ _ (0, 0) hx2
  obtain ⟨hl, hz, c0, c1, c2, c6, c7⟩ := hC.cells
  obtain ⟨kb, cK, hK, _, _⟩ := Un.own_shape hC.kr (by omega)
  have hrow := hC.kr
  rw [hK] at c6 hrow
  have hlen := knR_len n kn
  have a0 : w2.cell? ⟨kb, r * 2, none⟩ = some (.int .i64 (oi (kn r).1)) := (hrow.cellAt (r * 2) (by omega)).trans (knR_get hr).1
  have a1 : w2.cell? ⟨kb, r * 2 + 1, none⟩ = some (.int .i64 (oi (kn r).2)) := (hrow.cellAt (r * 2 + 1) (by omega)).trans (knR_get hr).2
  have EX : Hid (∀ W, Below w2.heap.size w2 W → W.cell? ⟨w.heap.size, 0, none⟩ = some (.pointer (some ⟨cb, 0, none⟩)) ∧ W.cell? ⟨w.heap.size, 1, none⟩ = some (.int .i64 (r : Nat)) ∧ W.cell? ⟨cb, 2, none⟩ = some (.pointer (some ⟨A.g, 0, none⟩)) ∧ W.cell? ⟨cb, 6, none⟩ = some (.slice (some ⟨kb, 0, none⟩) n cK) ∧ W.cell? ⟨kb, r * 2, none⟩ = some (.int .i64 (oi (kn r).1)) ∧ W.cell? ⟨kb, r * 2 + 1, none⟩ = some (.int .i64 (oi (kn r).2))) := Lib.hid
    fun W hb => ⟨(hb.cell (World.block_lt_of_cell? _ _ d0)).trans d0, (hb.cell (World.block_lt_of_cell? _ _ d1)).trans d1, (hb.cell (World.block_lt_of_cell? _ _ c2)).trans c2, (hb.cell (World.block_lt_of_cell? _ _ c6)).trans c6, (hb.cell (World.block_lt_of_cell? _ _ a0)).trans a0, (hb.cell (World.block_lt_of_cell? _ _ a1)).trans a1⟩
  have HB := Lib.hid (And.intro (HH.out.2.2.1.trans (hb.mono HH.out.2.2.1.size)) (And.intro hC hx2))
  obtain ⟨km, hkm⟩ : ∃ z, oi (kn r).1 = z := ⟨_, rfl⟩
  have HPC := Lib.hid (parts_oi (w := w2.drew) (A := A) (hC.below (Below.refl _ w2).drew).gr (kn r).1 fun p hp => (HP8.out p hp).1)
  rw [hkm, HPQ.out] at HPC
  rw [hkm] at EX
  have HPL := Lib.hid hPl
  clear hb hC hx2 hz c0 c1 c2 c6 c7 hK hrow hlen HO a0 a1 d0 d1 hkm hPl
  go_wp2_with fail
  have hS : Below w2.heap.size w2 w2.drew := (Below.refl _ _).drew
  refine wp_region_held (S := (fun W => Below w2.heap.size w2 W)) (by kernel_rfl) ?_
  change wpAnyH _ _ _ _ _ 18 (List.replicate 18 false).toArray _ w2.drew
  simp only [List.replicate_succ, List.replicate_zero]
  refine any_take (i := 0) (some 9) (.pointer (some ⟨w.heap.size, 0, none⟩)) rfl (by rfl) (by kernel_rfl) (by kernel_rfl) (by kernel_rfl) (fun _ _ _ h => h) (Or.inl ⟨by kernel_rfl, (fun W hw => by clear hw; go_simp)⟩) hS ?_
  simp only [Act.put, List.setIfInBounds_toArray, List.set_cons_zero, List.set_cons_succ]
  refine any_take (i := 1) (some 10) (.pointer (some ⟨cb, 0, none⟩)) rfl (by rfl) (by kernel_rfl) (by kernel_rfl) (by kernel_rfl) (fun _ _ _ h => h) (Or.inl ⟨by kernel_rfl, (fun W hw => by obtain ⟨n0, n1, n2, n3, n4, n5⟩ := EX.out W hw; clear hw; go_simp)⟩) hS ?_
  simp only [Act.put, List.setIfInBounds_toArray, List.set_cons_zero, List.set_cons_succ]
  refine any_take (i := 2) (some 11) (.pointer (some ⟨cb, 0, none⟩)) rfl (by rfl) (by kernel_rfl) (by kernel_rfl) (by kernel_rfl) (fun _ _ _ h => h) (Or.inl ⟨by kernel_rfl, (fun W hw => by clear hw; go_simp)⟩) hS ?_
  simp only [Act.put, List.setIfInBounds_toArray, List.set_cons_zero, List.set_cons_succ]
  refine any_take (i := 3) (some 12) (.pointer (some ⟨cb, 2, none⟩)) rfl (by rfl) (by kernel_rfl) (by kernel_rfl) (by kernel_rfl) (fun _ _ _ h => h) (Or.inl ⟨by kernel_rfl, (fun W hw => by clear hw; go_simp)⟩) hS ?_
  simp only [Act.put, List.setIfInBounds_toArray, List.set_cons_zero, List.set_cons_succ]
  refine any_take (i := 4) (some 13) (.pointer (some ⟨A.g, 0, none⟩)) rfl (by rfl) (by kernel_rfl) (by kernel_rfl) (by kernel_rfl) (fun _ _ _ h => h) (Or.inl ⟨by kernel_rfl, (fun W hw => by obtain ⟨n0, n1, n2, n3, n4, n5⟩ := EX.out W hw; clear hw; go_simp)⟩) hS ?_
  simp only [Act.put, List.setIfInBounds_toArray, List.set_cons_zero, List.set_cons_succ]
  refine any_take (i := 5) (some 14) (.pointer (some ⟨w.heap.size, 0, none⟩)) rfl (by rfl) (by kernel_rfl) (by kernel_rfl) (by kernel_rfl) (fun _ _ _ h => h) (Or.inl ⟨by kernel_rfl, (fun W hw => by clear hw; go_simp)⟩) hS ?_
  simp only [Act.put, List.setIfInBounds_toArray, List.set_cons_zero, List.set_cons_succ]
  refine any_take (i := 6) (some 15) (.pointer (some ⟨cb, 0, none⟩)) rfl (by rfl) (by kernel_rfl) (by kernel_rfl) (by kernel_rfl) (fun _ _ _ h => h) (Or.inl ⟨by kernel_rfl, (fun W hw => by obtain ⟨n0, n1, n2, n3, n4, n5⟩ := EX.out W hw; clear hw; go_simp)⟩) hS ?_
  simp only [Act.put, List.setIfInBounds_toArray, List.set_cons_zero, List.set_cons_succ]
  refine any_take (i := 7) (some 16) (.pointer (some ⟨cb, 0, none⟩)) rfl (by rfl) (by kernel_rfl) (by kernel_rfl) (by kernel_rfl) (fun _ _ _ h => h) (Or.inl ⟨by kernel_rfl, (fun W hw => by clear hw; go_simp)⟩) hS ?_
  simp only [Act.put, List.setIfInBounds_toArray, List.set_cons_zero, List.set_cons_succ]
  refine any_take (i := 8) (some 17) (.pointer (some ⟨cb, 6, none⟩)) rfl (by rfl) (by kernel_rfl) (by kernel_rfl) (by kernel_rfl) (fun _ _ _ h => h) (Or.inl ⟨by kernel_rfl, (fun W hw => by clear hw; go_simp)⟩) hS ?_
  simp only [Act.put, List.setIfInBounds_toArray, List.set_cons_zero, List.set_cons_succ]
  refine any_take (i := 9) (some 18) (.slice (some ⟨kb, 0, none⟩) n cK) rfl (by rfl) (by kernel_rfl) (by kernel_rfl) (by kernel_rfl) (fun _ _ _ h => h) (Or.inl ⟨by kernel_rfl, (fun W hw => by obtain ⟨n0, n1, n2, n3, n4, n5⟩ := EX.out W hw; clear hw; go_simp)⟩) hS ?_
  simp only [Act.put, List.setIfInBounds_toArray, List.set_cons_zero, List.set_cons_succ]
  refine any_take (i := 10) (some 19) (.pointer (some ⟨w.heap.size, 1, none⟩)) rfl (by rfl) (by kernel_rfl) (by kernel_rfl) (by kernel_rfl) (fun _ _ _ h => h) (Or.inl ⟨by kernel_rfl, (fun W hw => by clear hw; go_simp)⟩) hS ?_
  simp only [Act.put, List.setIfInBounds_toArray, List.set_cons_zero, List.set_cons_succ]
  refine any_take (i := 11) (some 20) (.int .i64 (r : Nat)) rfl (by rfl) (by kernel_rfl) (by kernel_rfl) (by kernel_rfl) (fun _ _ _ h => h) (Or.inl ⟨by kernel_rfl, (fun W hw => by obtain ⟨n0, n1, n2, n3, n4, n5⟩ := EX.out W hw; clear hw; go_simp)⟩) hS ?_
  simp only [Act.put, List.setIfInBounds_toArray, List.set_cons_zero, List.set_cons_succ]
  refine any_take (i := 12) (some 21) (.pointer (some ⟨kb, r * 2, none⟩)) rfl (by rfl) (by kernel_rfl) (by kernel_rfl) (by kernel_rfl) (fun _ _ _ h => h) (Or.inl ⟨by kernel_rfl, (fun W hw => by clear hw; go_simp)⟩) hS ?_
  simp only [Act.put, List.setIfInBounds_toArray, List.set_cons_zero, List.set_cons_succ]
  refine any_take (i := 13) (some 22) (.pointer (some ⟨kb, r * 2, none⟩)) rfl (by rfl) (by kernel_rfl) (by kernel_rfl) (by kernel_rfl) (fun _ _ _ h => h) (Or.inl ⟨by kernel_rfl, (fun W hw => by clear hw; go_simp)⟩) hS ?_
  simp only [Act.put, List.setIfInBounds_toArray, List.set_cons_zero, List.set_cons_succ]
  refine any_take (i := 14) (some 23) (.int .i64 km) rfl (by rfl) (by kernel_rfl) (by kernel_rfl) (by kernel_rfl) (fun _ _ _ h => h) (Or.inl ⟨by kernel_rfl, (fun W hw => by obtain ⟨n0, n1, n2, n3, n4, n5⟩ := EX.out W hw; clear hw; go_simp)⟩) hS ?_
  simp only [Act.put, List.setIfInBounds_toArray, List.set_cons_zero, List.set_cons_succ]
  refine any_take (i := 17) (some 26) (.int .i64 0) rfl (by rfl) (by kernel_rfl) (by kernel_rfl) (by kernel_rfl) (fun _ _ _ h => h) (Or.inl ⟨by kernel_rfl, (fun W hw => by clear hw; go_simp)⟩) hS ?_
  simp only [Act.put, List.setIfInBounds_toArray, List.set_cons_zero, List.set_cons_succ]
  refine wpAnyH_all (rs := [15]) (by kernel_rfl) (by simp) fun q' hq' => ?_
  obtain rfl : q' = 15 := by simpa using hq'
  refine ops_call (d := some 24) rfl (by rfl) (by kernel_rfl) (by go_simp) (HPC.out.mono ?_)
  rintro e w3 ⟨vp, rfl, hop, hb3⟩
  obtain ⟨Ap, cp, rfl, _, _⟩ := Un.own_form hop
  have hS3 : Below w2.heap.size w2 w3 := hS.trans hb3
  refine ⟨_, rfl, hS3, ?_⟩
  simp only [Act.put, List.setIfInBounds_toArray, List.set_cons_zero, List.set_cons_succ]
  refine any_take (i := 16) (some 25) (.int .i64 (P.length : Nat)) rfl (by rfl) (by kernel_rfl) (by kernel_rfl) (by kernel_rfl) (fun _ _ _ h => h) (Or.inl ⟨by kernel_rfl, (fun W hw => by clear hw; go_simp)⟩) hS3 ?_
  simp only [Act.put, List.setIfInBounds_toArray, List.set_cons_zero, List.set_cons_succ]
  refine wpAnyH_done (by kernel_rfl) ?_ _
  have H3 : Hid (ClM O w3 cb A st false n G kn nx col ro fs ∧ w3.heap[w.heap.size]? = some (Obj.cells #[.pointer (some ⟨cb, 0, none⟩), .int .i64 (r : Nat)] 76) ∧ w3.ownsRow w2.drew.heap.size 3 1 (.slice Ap P.length cp) P.length (nums P) ∧ Below w.heap.size w w3 ∧ w.heap.size < w2.heap.size) := Lib.hid
    ⟨HB.out.2.1.below hS3, (hS3.block _ (Array.getElem?_eq_some_iff.1 HB.out.2.2).1).trans HB.out.2.2, hop, HB.out.1.trans (hS3.mono HB.out.1.size), (Array.getElem?_eq_some_iff.1 HB.out.2.2).1⟩
  have HPE := Lib.hid HPL.out
  clear hS hS3 hb3 hop EX HPC
  go_wp2_with fail
  go_loopw [3, 5, 26] (fun s3 _ s26 wr => ∃ j k : Nat, s26 = .int .i64 (j : Nat) ∧ j ≤ P.length ∧ k ≤ 21 * j ∧ ClM O wr cb A st false n G kn nx col ro (fs + k) ∧ wr.ownsRow w3.heap.size 76 2 s3 ((P.take j).map ro).length (ptC cb ((P.take j).map ro)) ∧ Else A.S w3 wr) (fun _ _ s _ => P.length - (intOf s).toNat)
  case atStart => exact ⟨0, 0, rfl, Nat.zero_le _, Nat.le_refl _, by simpa using H3.out.1, World.ownsRow_nil _ _ _ _, Else.refl _ _⟩
  case round =>
    obtain ⟨j, k, rfl, hj, hk, hC, ho, hE⟩ := hrel
    obtain ⟨As, cs, rfl, _, _⟩ := Un.own_form ho
    have hml : ((P.take j).map ro).length = j := by rw [List.length_map, List.length_take, Nat.min_eq_left hj]
    have HT := Lib.hid (And.intro hC (And.intro ho (And.intro hE (And.intro hml hk))))
    rw [hml]
    clear hC ho hE hml hk
    have hP8 : P.length ≤ 8 := HPE.out.1
    by_cases hjl : j < P.length
    · have f1 : decide ((j : Int) < (P.length : Int)) = true := decide_eq_true (by omega)
      have HJL := Lib.hid hjl
      obtain ⟨x, hx⟩ : ∃ x, P[j]? = some x := ⟨_, List.getElem?_eq_getElem hjl⟩
      have hxn : x < n := HPE.out.2 x (List.mem_of_getElem? hx)
      have hp0 : (w3.ownsRow w2.drew.heap.size 3 1 (.slice Ap P.length cp) P.length (nums P)) := H3.out.2.2.1
      obtain ⟨bp, cpp, hsh, _, hbl⟩ := Un.own_shape hp0 (by omega)
      injection hsh with hA1 _ hcc1
      subst hA1; subst hcc1
      have hbp : w2.drew.heap.size ≤ bp := (hp0.lt bp rfl).1
      have hnS : ∀ k, w.heap.size ≤ k → ¬ A.S k := fun k hk hS => by have := HH.out.2.2.2.lt (.inr (.inl hS)); omega
      have hw2 := H3.out.2.2.2.2
      have hbp2 : w2.heap.size ≤ bp := hbp
      have z0 : wr.cell? ⟨w.heap.size, 0, none⟩ = some (.pointer (some ⟨cb, 0, none⟩)) := cell_of_row wr _ 0 _ _ (0, 0) ((HT.out.2.2.1.block _ (Array.getElem?_eq_some_iff.1 H3.out.2.1).1 (hnS _ (Nat.le_refl _))).trans H3.out.2.1)
      have z1 : wr.cell? ⟨bp, j, none⟩ = some (.int .i64 (x : Nat)) := ((own_else H3.out.2.2.1 HT.out.2.2.1 fun k hk => by cases hk; exact hnS _ (by show w.heap.size ≤ bp; omega)).cellAt j (by omega)).trans (by simp [nums, ints, toI, hx])
      have HPT := Lib.hid (part_cl HT.out.1 (by have := HT.out.2.2.2.2; have := HST.out.1; omega) x hxn)
      have HXX := Lib.hid (And.intro hx hxn)
      clear hx hxn hp0 hbp hbp2 hw2 hbl
      go_wp2_with fail
      refine HPT.out.mono ?_
      rintro e w5 ⟨k5, rfl, hk5, hC5, hE5⟩
      have hg3 : w3.heap.size ≤ wr.heap.size := HT.out.2.2.1.size
      have hwS : ∀ k, A.S k → k < w.heap.size := fun k hk => HH.out.2.2.2.lt (.inr (.inl hk))
      have hw3 : w.heap.size ≤ w3.heap.size := H3.out.2.2.2.1.size
      have ho5 := own_else HT.out.2.1 hE5 fun g hg hS => by have := (HT.out.2.1.lt g hg).1; have := hwS g hS; omega
      rw [HT.out.2.2.2.1] at ho5
      obtain ⟨g6, c6, w6, hrun, ho6, hgr6, hat6⟩ := app_pt w5 (.slice As j cs) cb ((P.take j).map ro) w3.heap.size (Nat.le_trans hg3 hE5.size) (by rw [HT.out.2.2.2.1]; exact ho5) (ro x) (by rw [HT.out.2.2.2.1]; omega)
      rw [HT.out.2.2.2.1] at hrun
      have hE6 : Else (fun k => w3.heap.size ≤ k ∧ k < w5.heap.size) w5 w6 := (Else.alloc _ _ _).trans (Else.grown hgr6 fun k hk => (ho5.lt k hk))
      have hC6 := hC5.aside hE6 fun q hq hS => by have := HH.out.2.2.2.lt hq; omega
      have HF := Lib.hid (And.intro hk5 (And.intro hC6 (And.intro ho6 (show Else A.S w3 w6 from ((((HT.out.2.2.1.trans hE5).mono fun k hk => .inl hk).trans (hE6.mono fun k hk => .inr hk.1)).old fun k hk => hk)))))
      clear hk5 hC5 hE5 hg3 hwS hw3 ho5 ho6 hgr6 hat6 hE6 hC6 HPT hnS
      unfold ptV
      go_wp2_with fail
      go_roundw
      case rel =>
        obtain ⟨hk5, hC6, ho6, hE6⟩ := HF.out
        have e1 : (P.take (j + 1)).map ro = (P.take j).map ro ++ [ro x] := by rw [List.take_add_one, HXX.out.1, List.map_append]; rfl
        refine ⟨j + 1, k + k5, by go_num, HJL.out, by have := HST.out.2; have := HT.out.2.2.2.2; omega, ?_, ?_, hE6⟩
        · have e2 : fs + ((k + k5 : Nat) : Int) = fs + (k : Nat) + (k5 : Nat) := by push_cast; omega
          rw [e2]
          exact hC6
        · rw [e1]
          rw [HT.out.2.2.2.1] at ho6
          exact ho6
      case measure => have := HJL.out; simp [intOf]; omega
    · have f1 : decide ((j : Int) < (P.length : Int)) = false := decide_eq_false (by omega)
      have hje : j = P.length := by omega
      have HJE := Lib.hid hje
      clear hje
      go_wp2_with fail
      refine bodyPost_ret (results_tmp rfl _ _ _) rfl ⟨_, k, rfl, ?_, by have := HT.out.2.2.2.2; omega, HT.out.1, (((Else.of_below (S := A.S) H3.out.2.2.2.1).trans HT.out.2.2.1))⟩
      have ho := HT.out.2.1
      rw [HT.out.2.2.2.1, HJE.out, List.take_length] at ho
      rw [HJE.out] at *
      exact own_mono ho H3.out.2.2.2.1.size
end PaAs
end Go.Proofs.Ytojgiienohpaiaa
