/- Texts of one proof, one behind the other. -/
import Derived.Test.YtbnpmeaaaecciaaGreatMgUnifyClasses22
/- unify: what a closure tells. -/
namespace Go.Proofs.YtbnpmeaaaecciaaGreat
open Go.RowKit
open Un (Else StM rowI UFo own_else dg swp wp_world paint)
set_option maxRecDepth 100000
section
variable {O T : Nat → Prop} {w w' : World} {cb : Nat} {A : Adr} {st : Int} {cl : Bool} {n : Nat} {G : List Gn} {kn : Kn} {nx col ro col' ro' : Nat → Nat} {fs fs' : Int}
/-- What Err says. -/
def errN (cl : Bool) : Int := if cl then 7 else 0
theorem err_cl (h : ClM O w cb A st cl n G kn nx col ro fs) : Calls Tryz.prog 9 #[.pointer (some ⟨cb, 0, none⟩)] w fun e w' => e = .returned (.int .i64 (errN cl)) ∧ w' = w := by
  obtain ⟨hl, hz, c0, c1, c2, c6, c7⟩ := h.cells
  clear h hz c0 c2 c6 c7
  cases cl with
  | true =>
    go_enter Tryz.func9, Tryz.ntmps9
    go_wp2_with fail
    exact bodyPost_ret (results_tmp rfl _ _ _) rfl ⟨rfl, rfl⟩
  | false =>
    go_enter Tryz.func9, Tryz.ntmps9
    go_wp2_with fail
    exact bodyPost_ret (results_tmp rfl _ _ _) rfl ⟨rfl, rfl⟩
theorem steps_cl (h : ClM O w cb A st cl n G kn nx col ro fs) : Calls Tryz.prog 14 #[.pointer (some ⟨cb, 0, none⟩)] w fun e w' => e = .returned (.int .i64 st) ∧ w' = w := by
  obtain ⟨hl, hz, c0, c1, c2, c6, c7⟩ := h.cells
  clear h hz c1 c2 c6 c7
  go_enter Tryz.func14, Tryz.ntmps14
  go_wp2_with fail
  exact bodyPost_ret (results_tmp rfl _ _ _) rfl ⟨rfl, rfl⟩
theorem node_cl (h : ClM O w cb A st cl n G kn nx col ro fs) (v : Int) (hv : (Lit.int .i64 v).wf = true) : Calls Tryz.prog 42 #[.pointer (some ⟨cb, 0, none⟩), .int .i64 v] w fun e w' => e = .returned (.tuple #[.int .i64 ((gvar G v).getD 0 : Nat), .bool (gvar G v).isSome]) ∧ Below w.heap.size w w' := by
  obtain ⟨hl, hz, c0, c1, c2, c6, c7⟩ := h.cells
  have HV := var_graph w 0 A.g A.mb A.V A.L G h.gr v hv
  obtain ⟨z, hz'⟩ : ∃ z : Nat, (gvar G v).getD 0 = z := ⟨_, rfl⟩
  obtain ⟨b, hb⟩ : ∃ b, (gvar G v).isSome = b := ⟨_, rfl⟩
  rw [hz', hb] at HV ⊢
  clear h hz c0 c1 c6 c7 hz' hb
  go_enter Tryz.func42, Tryz.ntmps42
  go_wp2_with fail
  refine HV.mono ?_
  rintro e w' ⟨rfl, hb2⟩
  go_wp2_with fail
  exact bodyPost_ret (results_tmp2 rfl _ _ _) rfl ⟨rfl, hb2⟩
/-- A node as a part: its class's root. -/
theorem part_cl (h : ClM O w cb A st cl n G kn nx col ro fs) (hst : 0 ≤ fs ∧ fs ≤ 10000000000000) (i : Nat) (hi : i < n) : Calls Tryz.prog 63 #[.pointer (some ⟨cb, 0, none⟩), .int .i64 (i : Nat)] w fun e w' => ∃ k : Nat, e = .returned (ptV (some cb) (ro i : Nat)) ∧ k ≤ dg n ∧ ClM O w' cb A st cl n G kn nx col ro (fs + k) ∧ Else A.S w w' := by
  have hb0 : Below w.heap.size w (w.alloc (.cells #[.pointer none, .int .i64 0] 82)) := (Below.refl _ _).alloc (Nat.le_refl _) _
  have h1 := h.below hb0
  have HR := Un.root_st (h1.stm (by omega)) (by omega) i hi
  obtain ⟨hl, hz, c0, c1, c2, c6, c7⟩ := h1.cells
  have HH := Lib.hid (And.intro h h1)
  clear h h1 hz c0 c1 c2 c6 c7 hb0
  go_enter Tryz.func63, Tryz.ntmps63
  go_wp2_with fail
  refine HR.mono ?_
  rintro e w2 ⟨k, rfl, hk, hs, he⟩
  have hgS : ¬ A.S w.heap.size := fun hx => Nat.lt_irrefl _ (HH.out.1.sb _ hx)
  have hx2 := (he.block w.heap.size (by simp) hgS).trans (heap_alloc_new w (.cells #[.pointer none, .int .i64 0] 82))
  have hxl := (Array.getElem?_eq_some_iff.1 hx2).1
  have d0 : w2.cell? ⟨w.heap.size, 0, none⟩ = some (.pointer none) := cell_of_row w2 _ 0 _ _ (0, 0) hx2
  have d1 : w2.cell? ⟨w.heap.size, 1, none⟩ = some (.int .i64 0) := cell_of_row w2 _ 1 _ _ (0, 0) hx2
  have z0 : w2.frozen? ⟨w.heap.size, 0, none⟩ = false := by simp [World.frozen?, hx2]
  have z1 : w2.frozen? ⟨w.heap.size, 1, none⟩ = false := by simp [World.frozen?, hx2]
  have HS := Lib.hid (And.intro hk (And.intro hs (And.intro he hx2)))
  clear hk hs he hx2 HR hgS
  go_wp2_with fail
  obtain ⟨hk, hs, he, hx2⟩ := HS.out
  have hC2 := HH.out.2.turn he hs
  have hE : Else (fun k => k = w.heap.size) w2 ((w2.setCell ⟨w.heap.size, 0, none⟩ (.pointer (some ⟨cb, 0, none⟩))).setCell ⟨w.heap.size, 1, none⟩ (.int .i64 (ro i : Nat))) := (Un.Else.set (S := fun k => k = w.heap.size) w2 (p := ⟨w.heap.size, 0, none⟩) rfl _).trans (Un.Else.set (S := fun k => k = w.heap.size) _ (p := ⟨w.heap.size, 1, none⟩) rfl _)
  have hx4 := heap_setCell_same _ w.heap.size 1 _ _ (.int .i64 (ro i : Nat)) (heap_setCell_same w2 w.heap.size 0 _ _ (.pointer (some ⟨cb, 0, none⟩)) hx2)
  refine bodyPost_ret (results_box rfl _ _ w.heap.size (ptV (some cb) (ro i : Nat)) rfl (load_pt (c := some cb) (cell_of_row _ _ 0 _ _ (0, 0) hx4) (cell_of_row _ _ 1 _ _ (0, 0) hx4))) rfl ⟨k, rfl, hk, hC2.aside hE fun j hj e => by have := HH.out.1.lt hj; omega, ?_⟩
  exact (((Else.of_below (S := fun k => A.S k ∨ k = w.heap.size) ((Below.refl _ w).alloc (Nat.le_refl _) _)).trans (he.mono fun k hk => .inl hk)).trans (hE.mono fun k hk => .inr hk)).old fun k hk => hk.imp id fun e => by omega
/-- A part, stored into a box of one's own. -/
theorem pt_store {w2 : World} {g : Nat} {x y : Value} (hx : w2.heap[g]? = some (Obj.cells #[x, y] 82)) (c : Option Nat) (r : Int) :
    ((w2.setCell ⟨g, 0, none⟩ (.pointer (c.map fun b => ⟨b, 0, none⟩))).setCell ⟨g, 1, none⟩ (.int .i64 r)).heap[g]? = some (Obj.cells #[.pointer (c.map fun b => ⟨b, 0, none⟩), .int .i64 r] 82) ∧ Else (fun k => k = g) w2 ((w2.setCell ⟨g, 0, none⟩ (.pointer (c.map fun b => ⟨b, 0, none⟩))).setCell ⟨g, 1, none⟩ (.int .i64 r)) :=
  ⟨heap_setCell_same _ g 1 _ _ (.int .i64 r) (heap_setCell_same w2 g 0 _ _ _ hx), (Un.Else.set (S := fun k => k = g) w2 (p := ⟨g, 0, none⟩) rfl _).trans (Un.Else.set (S := fun k => k = g) _ (p := ⟨g, 1, none⟩) rfl _)⟩
theorem pt_load {w2 : World} {g : Nat} {c : Option Nat} {r : Int} (hx : w2.heap[g]? = some (Obj.cells #[.pointer (c.map fun b => ⟨b, 0, none⟩), .int .i64 r] 82)) : (loadVar 82 ⟨g, 0, none⟩).run Tryz.prog w2 = .ok (ptV c r) w2 :=
  load_pt (cell_of_row _ _ 0 _ _ (0, 0) hx) (cell_of_row _ _ 1 _ _ (0, 0) hx)
theorem pt_fin {w2 w4 : World} {g : Nat} (h : ClM O w cb A st cl n G kn nx col ro fs) (h2 : ClM O w2 cb A st cl n G kn nx col ro fs') (hE : Else (fun k => A.S k ∨ w.heap.size ≤ k) w w2) (hE4 : Else (fun k => k = g) w2 w4) (hg : w.heap.size ≤ g) : ClM O w4 cb A st cl n G kn nx col ro fs' ∧ Else A.S w w4 :=
  ⟨h2.aside hE4 fun j hj e => by have := h.lt hj; omega, (hE.trans (hE4.mono fun k hk => .inr (by omega))).old fun k hk => by rcases hk with hk | hk; exact .inl hk; exact .inr hk⟩
/-- What a variable's class stands for, as a part. -/
theorem cpart_cl (h : ClM O w cb A st cl n G kn nx col ro fs) (hst : 0 ≤ fs ∧ fs ≤ 10000000000000) (v : Int) (hv : (Lit.int .i64 v).wf = true) (hn : ∀ i, gvar G v = some i → i < n) :
    Calls Tryz.prog 38 #[.pointer (some ⟨cb, 0, none⟩), .int .i64 v] w fun e w' => ∃ k : Nat, e = .returned (match gvar G v with | some i => .tuple #[ptV (some cb) (ro i : Nat), .bool true] | none => .tuple #[ptV none 0, .bool false]) ∧ k ≤ dg n ∧ ClM O w' cb A st cl n G kn nx col ro (fs + k) ∧ Else A.S w w' := by
  have hb0 : Below w.heap.size w (w.alloc (.cells #[.pointer none, .int .i64 0] 82)) := (Below.refl _ _).alloc (Nat.le_refl _) _
  have h1 := h.below hb0
  have HV := node_cl h1 v hv
  have hx := heap_alloc_new w (.cells #[.pointer none, .int .i64 0] 82)
  have HH := Lib.hid (And.intro h (And.intro h1 hx))
  clear h h1 hb0 hx
  cases hg : gvar G v with
  | none =>
    rw [hg] at HV
    clear hg
    go_enter Tryz.func38, Tryz.ntmps38
    go_wp2_with fail
    refine HV.mono ?_
    rintro e w2 ⟨rfl, hb⟩
    have hx2 := (hb.block _ (by simp)).trans HH.out.2.2
    have d0 : w2.cell? ⟨w.heap.size, 0, none⟩ = some (.pointer none) := cell_of_row w2 _ 0 _ _ (0, 0) hx2
    have d1 : w2.cell? ⟨w.heap.size, 1, none⟩ = some (.int .i64 0) := cell_of_row w2 _ 1 _ _ (0, 0) hx2
    have z0 : w2.frozen? ⟨w.heap.size, 0, none⟩ = false := by simp [World.frozen?, hx2]
    have z1 : w2.frozen? ⟨w.heap.size, 1, none⟩ = false := by simp [World.frozen?, hx2]
    have HB := Lib.hid (And.intro hb hx2)
    clear hb hx2 HV
    go_wp2_with fail
    obtain ⟨hb, hx2⟩ := HB.out
    obtain ⟨hx4, hE4⟩ := pt_store hx2 none 0
    obtain ⟨r1, r2⟩ := pt_fin HH.out.1 (HH.out.2.1.below hb) (((Else.of_below (S := fun k => A.S k ∨ w.heap.size ≤ k) ((Below.refl _ w).alloc (Nat.le_refl _) _)).trans (Else.of_below hb))) hE4 (Nat.le_refl _)
    exact bodyPost_ret (results_cell_tmp rfl _ _ w.heap.size (ptV none 0) rfl (pt_load (c := none) hx4)) rfl ⟨0, rfl, Nat.zero_le _, by simpa using r1, r2⟩
  | some i =>
    rw [hg] at HV
    have hi := hn i hg
    clear hg
    go_enter Tryz.func38, Tryz.ntmps38
    go_wp2_with fail
    refine HV.mono ?_
    rintro e w2 ⟨rfl, hb⟩
    have HP := part_cl (HH.out.2.1.below hb) hst i hi
    have hx2 := (hb.block _ (by simp)).trans HH.out.2.2
    have HB := Lib.hid (And.intro hb hx2)
    clear hb hx2 HV
    go_wp2_with fail
    refine HP.mono ?_
    rintro e w3 ⟨k, rfl, hk, hC, hE⟩
    have hg : ¬ A.S w.heap.size := fun hx => Nat.lt_irrefl _ (HH.out.1.sb _ hx)
    have hx3 := (hE.block w.heap.size (Array.getElem?_eq_some_iff.1 HB.out.2).1 hg).trans HB.out.2
    have d0 : w3.cell? ⟨w.heap.size, 0, none⟩ = some (.pointer none) := cell_of_row w3 _ 0 _ _ (0, 0) hx3
    have d1 : w3.cell? ⟨w.heap.size, 1, none⟩ = some (.int .i64 0) := cell_of_row w3 _ 1 _ _ (0, 0) hx3
    have z0 : w3.frozen? ⟨w.heap.size, 0, none⟩ = false := by simp [World.frozen?, hx3]
    have z1 : w3.frozen? ⟨w.heap.size, 1, none⟩ = false := by simp [World.frozen?, hx3]
    have HK := Lib.hid (And.intro hk (And.intro hC (And.intro hE hx3)))
    clear hk hC hE hx3 HP hg
    unfold ptV
    go_wp2_with fail
    obtain ⟨hk, hC, hE, hx3⟩ := HK.out
    obtain ⟨hx4, hE4⟩ := pt_store hx3 (some cb) (ro i : Nat)
    obtain ⟨r1, r2⟩ := pt_fin HH.out.1 hC ((((Else.of_below (S := fun k => A.S k ∨ w.heap.size ≤ k) ((Below.refl _ w).alloc (Nat.le_refl _) _)).trans (Else.of_below HB.out.1))).trans (hE.mono fun k hk => .inl hk)) hE4 (Nat.le_refl _)
    exact bodyPost_ret (results_cell_tmp rfl _ _ w.heap.size (ptV (some cb) (ro i : Nat)) rfl (pt_load (c := some cb) hx4)) rfl ⟨k, rfl, hk, r1, r2⟩
end
end Go.Proofs.YtbnpmeaaaecciaaGreat
/- unify: a part's kind, a variable's. -/
namespace Go.Proofs.YtbnpmeaaaecciaaGreat
open Go.RowKit
open Un (Else StM rowI UFo own_else dg swp wp_world paint)
set_option maxRecDepth 100000
section
variable {O T : Nat → Prop} {w w' : World} {cb : Nat} {A : Adr} {st : Int} {cl : Bool} {n : Nat} {G : List Gn} {kn : Kn} {nx col ro col' ro' : Nat → Nat} {fs fs' : Int}
/-- A node's kind, or none's. -/
def kindO (G : List Gn) : Option Nat → Int
  | some i => ((G[i]?).map fun p => p.1).getD 0
  | none => 0
theorem kind_oi (hG : GrM 0 w A.g A.V A.mb A.L G) (o : Option Nat) : Calls Tryz.prog 55 #[.pointer (some ⟨A.g, 0, none⟩), .int .i64 (oi o)] w fun e w' => e = .returned (.int .i64 (kindO G o)) ∧ Below w.heap.size w w' := by
  cases o with
  | none => exact kind_out w 0 A.g A.mb A.V A.L G hG (-1) (by omega)
  | some i =>
    by_cases hi : i < G.length
    · have := kind_in w 0 A.g A.mb A.V A.L G hG i hi
      simp only [kindO, List.getElem?_eq_getElem hi, Option.map_some, Option.getD_some]
      exact this
    · have := kind_out w 0 A.g A.mb A.V A.L G hG (i : Int) (by omega)
      simp only [kindO, List.getElem?_eq_none (Nat.le_of_not_lt hi), Option.map_none, Option.getD_none]
      exact this
theorem holds_cl (h : ClM O w cb A st false n G kn nx col ro fs) (r : Int) : Calls Tryz.prog 64 #[ptV (some cb) r] w fun e w' => e = .returned (.bool true) ∧ Below w.heap.size w w' := by
  have hb0 : Below w.heap.size w (w.alloc (.cells #[.pointer (some ⟨cb, 0, none⟩), .int .i64 r] 82)) := (Below.refl _ _).alloc (Nat.le_refl _) _
  have HE := err_cl (h.below hb0)
  show Calls _ _ #[.agg #[.pointer (some ⟨cb, 0, none⟩), .int .i64 r]] _ _
  clear h hb0
  go_enter Tryz.func64, Tryz.ntmps64
  go_wp2_with fail
  refine HE.mono ?_
  rintro e w' ⟨rfl, rfl⟩
  go_wp2_with fail
  exact bodyPost_ret (results_tmp rfl _ _ _) rfl ⟨rfl, (Below.refl _ _).alloc (Nat.le_refl _) _⟩
theorem pkind_cl (h : ClM O w cb A st false n G kn nx col ro fs) (r : Nat) (hr : r < n) : Calls Tryz.prog 39 #[ptV (some cb) (r : Nat)] w fun e w' => e = .returned (.int .i64 (kindO G (kn r).1)) ∧ Below w.heap.size w w' := by
  have hb0 : Below w.heap.size w (w.alloc (.cells #[.pointer (some ⟨cb, 0, none⟩), .int .i64 (r : Nat)] 82)) := (Below.refl _ _).alloc (Nat.le_refl _) _
  have h1 := h.below hb0
  have HO := holds_cl h1 (r : Nat)
  have hx := heap_alloc_new w (.cells #[.pointer (some ⟨cb, 0, none⟩), .int .i64 (r : Nat)] 82)
  have HH := Lib.hid (And.intro h1 hx)
  show Calls _ _ #[.agg #[.pointer (some ⟨cb, 0, none⟩), .int .i64 (r : Nat)]] _ _
  clear h h1 hb0 hx
  go_enter Tryz.func39, Tryz.ntmps39
  go_wp2_with fail
  refine (show Calls _ _ #[.agg #[.pointer (some ⟨cb, 0, none⟩), .int .i64 (r : Nat)]] _ _ from HO).mono ?_
  rintro e w2 ⟨rfl, hb⟩
  have hC := HH.out.1.below hb
  have hx2 := (hb.block _ (by simp)).trans HH.out.2
  have d0 : w2.cell? ⟨w.heap.size, 0, none⟩ = some (.pointer (some ⟨cb, 0, none⟩)) := cell_of_row w2 _ 0 _ _ (0, 0) hx2
  have d1 : w2.cell? ⟨w.heap.size, 1, none⟩ = some (.int .i64 (r : Nat)) := cell_of_row w2 _ 1 _ _ (0, 0) hx2
  obtain ⟨hl, hz, c0, c1, c2, c6, c7⟩ := hC.cells
  obtain ⟨kb, cK, hK, _, _⟩ := Un.own_shape hC.kr (by omega)
  have hrow := hC.kr
  rw [hK] at c6 hrow
  have hlen := knR_len n kn
  have a0 : w2.cell? ⟨kb, r * 2, none⟩ = some (.int .i64 (oi (kn r).1)) := (hrow.cellAt (r * 2) (by omega)).trans (knR_get hr).1
  have HKD := kind_oi (w := w2.drew) (A := A) (hC.below (Below.refl _ w2).drew).gr (kn r).1
  have HB := Lib.hid hb
  clear hb hC hx2 hz c0 c1 c7 hK hrow hlen HO
  go_wp2_with fail
  obtain ⟨km, hkm⟩ : ∃ z, oi (kn r).1 = z := ⟨_, rfl⟩
  rw [hkm] at a0 HKD
  obtain ⟨S0, hSof, hSto⟩ : ∃ S0 : World → Prop, (∀ W : World, Below w2.heap.size w2 W → S0 W) ∧ (∀ W, S0 W → W.cell? ⟨w.heap.size, 0, none⟩ = some (.pointer (some ⟨cb, 0, none⟩)) ∧ W.cell? ⟨w.heap.size, 1, none⟩ = some (.int .i64 (r : Nat)) ∧ W.cell? ⟨cb, 2, none⟩ = some (.pointer (some ⟨A.g, 0, none⟩)) ∧ W.cell? ⟨cb, 6, none⟩ = some (.slice (some ⟨kb, 0, none⟩) n cK) ∧ W.cell? ⟨kb, r * 2, none⟩ = some (.int .i64 km)) :=
    ⟨fun W => Below w2.heap.size w2 W, fun _ h => h, fun W hb => ⟨(hb.cell (World.block_lt_of_cell? _ _ d0)).trans d0, (hb.cell (World.block_lt_of_cell? _ _ d1)).trans d1, (hb.cell (World.block_lt_of_cell? _ _ c2)).trans c2, (hb.cell (World.block_lt_of_cell? _ _ c6)).trans c6, (hb.cell (World.block_lt_of_cell? _ _ a0)).trans a0⟩⟩
  have hS : S0 w2.drew := hSof _ (Below.refl _ _).drew
  have EX := Lib.hid hSto
  have HSOF := Lib.hid hSof
  have HKH := Lib.hid HKD
  clear hSof hSto HKD d0 d1 c2 c6 a0
  refine wp_region_held (S := S0) (by kernel_rfl) ?_
  change wpAnyH _ _ _ _ _ 17 (List.replicate 17 false).toArray _ w2.drew
  simp only [List.replicate_succ, List.replicate_zero]
  refine any_take (i := 0) (some 6) (.pointer (some ⟨w.heap.size, 0, none⟩)) rfl (by rfl) (by kernel_rfl) (by kernel_rfl) (by kernel_rfl) (fun _ _ _ h => h) (Or.inl ⟨by kernel_rfl, (fun W hw => by clear hw; go_simp)⟩) hS ?_
  simp only [Act.put, List.setIfInBounds_toArray, List.set_cons_zero, List.set_cons_succ]
  refine any_take (i := 1) (some 7) (.pointer (some ⟨cb, 0, none⟩)) rfl (by rfl) (by kernel_rfl) (by kernel_rfl) (by kernel_rfl) (fun _ _ _ h => h) (Or.inl ⟨by kernel_rfl, (fun W hw => by obtain ⟨n0, n1, n2, n3, n4⟩ := EX.out W hw; clear hw; go_simp)⟩) hS ?_
  simp only [Act.put, List.setIfInBounds_toArray, List.set_cons_zero, List.set_cons_succ]
  refine any_take (i := 2) (some 8) (.pointer (some ⟨cb, 0, none⟩)) rfl (by rfl) (by kernel_rfl) (by kernel_rfl) (by kernel_rfl) (fun _ _ _ h => h) (Or.inl ⟨by kernel_rfl, (fun W hw => by clear hw; go_simp)⟩) hS ?_
  simp only [Act.put, List.setIfInBounds_toArray, List.set_cons_zero, List.set_cons_succ]
  refine any_take (i := 3) (some 9) (.pointer (some ⟨cb, 2, none⟩)) rfl (by rfl) (by kernel_rfl) (by kernel_rfl) (by kernel_rfl) (fun _ _ _ h => h) (Or.inl ⟨by kernel_rfl, (fun W hw => by clear hw; go_simp)⟩) hS ?_
  simp only [Act.put, List.setIfInBounds_toArray, List.set_cons_zero, List.set_cons_succ]
  refine any_take (i := 4) (some 10) (.pointer (some ⟨A.g, 0, none⟩)) rfl (by rfl) (by kernel_rfl) (by kernel_rfl) (by kernel_rfl) (fun _ _ _ h => h) (Or.inl ⟨by kernel_rfl, (fun W hw => by obtain ⟨n0, n1, n2, n3, n4⟩ := EX.out W hw; clear hw; go_simp)⟩) hS ?_
  simp only [Act.put, List.setIfInBounds_toArray, List.set_cons_zero, List.set_cons_succ]
  refine any_take (i := 5) (some 11) (.pointer (some ⟨w.heap.size, 0, none⟩)) rfl (by rfl) (by kernel_rfl) (by kernel_rfl) (by kernel_rfl) (fun _ _ _ h => h) (Or.inl ⟨by kernel_rfl, (fun W hw => by clear hw; go_simp)⟩) hS ?_
  simp only [Act.put, List.setIfInBounds_toArray, List.set_cons_zero, List.set_cons_succ]
  refine any_take (i := 6) (some 12) (.pointer (some ⟨cb, 0, none⟩)) rfl (by rfl) (by kernel_rfl) (by kernel_rfl) (by kernel_rfl) (fun _ _ _ h => h) (Or.inl ⟨by kernel_rfl, (fun W hw => by obtain ⟨n0, n1, n2, n3, n4⟩ := EX.out W hw; clear hw; go_simp)⟩) hS ?_
  simp only [Act.put, List.setIfInBounds_toArray, List.set_cons_zero, List.set_cons_succ]
  refine any_take (i := 7) (some 13) (.pointer (some ⟨cb, 0, none⟩)) rfl (by rfl) (by kernel_rfl) (by kernel_rfl) (by kernel_rfl) (fun _ _ _ h => h) (Or.inl ⟨by kernel_rfl, (fun W hw => by clear hw; go_simp)⟩) hS ?_
  simp only [Act.put, List.setIfInBounds_toArray, List.set_cons_zero, List.set_cons_succ]
  refine any_take (i := 8) (some 14) (.pointer (some ⟨cb, 6, none⟩)) rfl (by rfl) (by kernel_rfl) (by kernel_rfl) (by kernel_rfl) (fun _ _ _ h => h) (Or.inl ⟨by kernel_rfl, (fun W hw => by clear hw; go_simp)⟩) hS ?_
  simp only [Act.put, List.setIfInBounds_toArray, List.set_cons_zero, List.set_cons_succ]
  refine any_take (i := 9) (some 15) (.slice (some ⟨kb, 0, none⟩) n cK) rfl (by rfl) (by kernel_rfl) (by kernel_rfl) (by kernel_rfl) (fun _ _ _ h => h) (Or.inl ⟨by kernel_rfl, (fun W hw => by obtain ⟨n0, n1, n2, n3, n4⟩ := EX.out W hw; clear hw; go_simp)⟩) hS ?_
  simp only [Act.put, List.setIfInBounds_toArray, List.set_cons_zero, List.set_cons_succ]
  refine any_take (i := 10) (some 16) (.pointer (some ⟨w.heap.size, 1, none⟩)) rfl (by rfl) (by kernel_rfl) (by kernel_rfl) (by kernel_rfl) (fun _ _ _ h => h) (Or.inl ⟨by kernel_rfl, (fun W hw => by clear hw; go_simp)⟩) hS ?_
  simp only [Act.put, List.setIfInBounds_toArray, List.set_cons_zero, List.set_cons_succ]
  refine any_take (i := 11) (some 17) (.int .i64 (r : Nat)) rfl (by rfl) (by kernel_rfl) (by kernel_rfl) (by kernel_rfl) (fun _ _ _ h => h) (Or.inl ⟨by kernel_rfl, (fun W hw => by obtain ⟨n0, n1, n2, n3, n4⟩ := EX.out W hw; clear hw; go_simp)⟩) hS ?_
  simp only [Act.put, List.setIfInBounds_toArray, List.set_cons_zero, List.set_cons_succ]
  refine any_take (i := 12) (some 18) (.pointer (some ⟨kb, r * 2, none⟩)) rfl (by rfl) (by kernel_rfl) (by kernel_rfl) (by kernel_rfl) (fun _ _ _ h => h) (Or.inl ⟨by kernel_rfl, (fun W hw => by clear hw; go_simp)⟩) hS ?_
  simp only [Act.put, List.setIfInBounds_toArray, List.set_cons_zero, List.set_cons_succ]
  refine any_take (i := 13) (some 19) (.pointer (some ⟨kb, r * 2, none⟩)) rfl (by rfl) (by kernel_rfl) (by kernel_rfl) (by kernel_rfl) (fun _ _ _ h => h) (Or.inl ⟨by kernel_rfl, (fun W hw => by clear hw; go_simp)⟩) hS ?_
  simp only [Act.put, List.setIfInBounds_toArray, List.set_cons_zero, List.set_cons_succ]
  refine any_take (i := 14) (some 20) (.int .i64 km) rfl (by rfl) (by kernel_rfl) (by kernel_rfl) (by kernel_rfl) (fun _ _ _ h => h) (Or.inl ⟨by kernel_rfl, (fun W hw => by obtain ⟨n0, n1, n2, n3, n4⟩ := EX.out W hw; clear hw; go_simp)⟩) hS ?_
  simp only [Act.put, List.setIfInBounds_toArray, List.set_cons_zero, List.set_cons_succ]
  refine wpAnyH_all (rs := [15]) (by kernel_rfl) (by simp) fun q hq => ?_
  obtain rfl : q = 15 := by simpa using hq
  refine ops_call (d := some 21) rfl (by rfl) (by kernel_rfl) (by go_simp) (HKH.out.mono ?_)
  rintro e w3 ⟨rfl, hb3⟩
  have hb3 : Below w2.heap.size w2 w3 := ((Below.refl _ w2).drew).trans hb3
  have hS3 := HSOF.out w3 hb3
  have HB3 := Lib.hid hb3
  clear hb3
  refine ⟨_, rfl, hS3, ?_⟩
  simp only [Act.put, List.setIfInBounds_toArray, List.set_cons_zero, List.set_cons_succ]
  refine any_take (i := 16) (some 2) (.int .i64 (kindO G (kn r).1)) rfl (by rfl) (by kernel_rfl) (by kernel_rfl) (by kernel_rfl) (fun _ _ _ h => h) (Or.inl ⟨by kernel_rfl, (fun W hw => by clear hw; go_simp)⟩) hS3 ?_
  simp only [Act.put, List.setIfInBounds_toArray, List.set_cons_zero, List.set_cons_succ]
  refine wpAnyH_done (by kernel_rfl) ?_ _
  go_wp2_with fail
  refine bodyPost_ret (results_tmp rfl _ _ _) rfl ⟨rfl, ?_⟩
  have hb2 : Below w.heap.size w w2 := ((Below.refl _ w).alloc (Nat.le_refl _) _).trans (HB.out.mono (by simp))
  exact hb2.trans (HB3.out.mono hb2.size)
end
end Go.Proofs.YtbnpmeaaaecciaaGreat
/- unify: a variable's kind; whether two are in one class. -/
namespace Go.Proofs.YtbnpmeaaaecciaaGreat
open Go.RowKit
open Un (Else StM rowI UFo own_else dg swp wp_world paint)
set_option maxRecDepth 100000
section
variable {O T : Nat → Prop} {w w' : World} {cb : Nat} {A : Adr} {st : Int} {cl : Bool} {n : Nat} {G : List Gn} {kn : Kn} {nx col ro col' ro' : Nat → Nat} {fs fs' : Int}
/-- The class's root of a variable, if there is such a one. -/
def rootV (G : List Gn) (ro : Nat → Nat) (v : Int) : Option Nat := (gvar G v).map ro
theorem cpart_rt (h : ClM O w cb A st cl n G kn nx col ro fs) (hst : 0 ≤ fs ∧ fs ≤ 10000000000000) (v : Int) (hv : (Lit.int .i64 v).wf = true) (hn : ∀ i, gvar G v = some i → i < n) :
    Calls Tryz.prog 38 #[.pointer (some ⟨cb, 0, none⟩), .int .i64 v] w fun e w' => ∃ k : Nat, e = .returned (.tuple #[ptV ((rootV G ro v).map fun _ => cb) (((rootV G ro v).getD 0 : Nat) : Int), .bool (rootV G ro v).isSome]) ∧ k ≤ dg n ∧ ClM O w' cb A st cl n G kn nx col ro (fs + k) ∧ Else A.S w w' := by
  refine (cpart_cl h hst v hv hn).mono ?_
  rintro e w' ⟨k, rfl, h1⟩
  refine ⟨k, ?_, h1⟩
  unfold rootV
  cases gvar G v <;> rfl
theorem ckind_cl (h : ClM O w cb A st false n G kn nx col ro fs) (hst : 0 ≤ fs ∧ fs ≤ 10000000000000) (v : Int) (hv : (Lit.int .i64 v).wf = true) (hn : ∀ i, gvar G v = some i → i < n) :
    Calls Tryz.prog 18 #[.pointer (some ⟨cb, 0, none⟩), .int .i64 v] w fun e w' => ∃ k : Nat, e = .returned (.int .i64 (match rootV G ro v with | some r => kindO G (kn r).1 | none => 0)) ∧ k ≤ dg n ∧ ClM O w' cb A st false n G kn nx col ro (fs + k) ∧ Else A.S w w' := by
  have HP := cpart_rt h hst v hv hn
  have HH := Lib.hid h
  have hroot : ∀ r, rootV G ro v = some r → r < n := by
    intro r hr
    unfold rootV at hr
    obtain ⟨i, hi, rfl⟩ := Option.map_eq_some_iff.1 hr
    have hin := hn i hi
    exact ((h.stm (by omega)).uf.roots hin).1
  clear h
  cases hr : rootV G ro v with
  | none =>
    rw [hr] at HP
    clear hr hroot
    simp only [ptV, Option.map_none, Option.getD_none, Option.isSome_none] at HP
    go_enter Tryz.func18, Tryz.ntmps18
    go_wp2_with fail
    refine HP.mono ?_
    rintro e w2 ⟨k, rfl, hk, hC, hE⟩
    have HF := Lib.hid (And.intro hk (And.intro hC hE))
    clear hk hC hE HP
    go_wp2_with fail
    refine (show Calls _ _ #[.agg #[.pointer none, .int .i64 0]] _ _ from kind_zero _).mono ?_
    rintro e w3 ⟨rfl, hb⟩
    have HB := Lib.hid hb
    clear hb
    go_wp2_with fail
    obtain ⟨hk, hC, hE⟩ := HF.out
    have hb2 := ((Below.refl _ w2).alloc (Nat.le_refl _) _).trans (HB.out.mono (by simp))
    exact bodyPost_ret (results_tmp rfl _ _ _) rfl ⟨k, rfl, hk, hC.below hb2, hE.trans (Else.of_below hb2)⟩
  | some r =>
    rw [hr] at HP
    have hrn := hroot r hr
    clear hr hroot
    simp only [ptV, Option.map_some, Option.getD_some, Option.isSome_some] at HP
    go_enter Tryz.func18, Tryz.ntmps18
    go_wp2_with fail
    refine HP.mono ?_
    rintro e w2 ⟨k, rfl, hk, hC, hE⟩
    have hb1 : Below w2.heap.size w2 (w2.alloc (.cells #[.pointer (some ⟨cb, 0, none⟩), .int .i64 (r : Nat)] 82)) := (Below.refl _ w2).alloc (Nat.le_refl _) _
    have HK := pkind_cl (hC.below hb1) r hrn
    have HF := Lib.hid (And.intro hk (And.intro hC (And.intro hE hb1)))
    clear hk hC hE HP hb1
    go_wp2_with fail
    refine (show Calls _ _ #[.agg #[.pointer (some ⟨cb, 0, none⟩), .int .i64 (r : Nat)]] _ _ from HK).mono ?_
    rintro e w3 ⟨rfl, hb⟩
    have HB := Lib.hid hb
    clear hb HK
    go_wp2_with fail
    obtain ⟨hk, hC, hE, hb1⟩ := HF.out
    have hb2 := hb1.trans (HB.out.mono (by simp))
    exact bodyPost_ret (results_tmp rfl _ _ _) rfl ⟨k, rfl, hk, hC.below hb2, hE.trans (Else.of_below hb2)⟩
set_option maxHeartbeats 1000000 in
theorem same_cl (h : ClM O w cb A st cl n G kn nx col ro fs) (hst : 0 ≤ fs ∧ fs ≤ 1000000000000) (hdg : dg n ≤ 21) (a b : Int) (ha : (Lit.int .i64 a).wf = true) (hb : (Lit.int .i64 b).wf = true) (hna : ∀ i, gvar G a = some i → i < n) (hnb : ∀ i, gvar G b = some i → i < n) :
    Calls Tryz.prog 19 #[.pointer (some ⟨cb, 0, none⟩), .int .i64 a, .int .i64 b] w fun e w' => ∃ k : Nat, e = .returned (.bool ((rootV G ro a).isSome && (rootV G ro b).isSome && rootV G ro a == rootV G ro b)) ∧ k ≤ 2 * dg n ∧ ClM O w' cb A st cl n G kn nx col ro (fs + k) ∧ Else A.S w w' := by
  have HP := cpart_rt h (by omega) a ha hna
  clear h
  rcases hra : rootV G ro a with _ | ra <;> rcases hrb : rootV G ro b with _ | rb
  all_goals
    rw [hra] at HP
    simp only [ptV, Option.map_none, Option.getD_none, Option.isSome_none, Option.map_some, Option.getD_some, Option.isSome_some] at HP
    go_enter Tryz.func19, Tryz.ntmps19
    go_wp2_with fail
    refine HP.mono ?_
    rintro e w2 ⟨k, rfl, hk, hC, hE⟩
    have HQ := fun x : Obj => cpart_rt (w := w2.alloc x) (hC.below ((Below.refl _ w2).alloc (Nat.le_refl _) _)) (show 0 ≤ fs + k ∧ fs + k ≤ 10000000000000 by omega) b hb hnb
    rw [hrb] at HQ
    simp only [ptV, Option.map_none, Option.getD_none, Option.isSome_none, Option.map_some, Option.getD_some, Option.isSome_some] at HQ
    have HSB := Lib.hid hC.sb
    have HF := Lib.hid (And.intro hk (And.intro hC hE))
    have HQH := Lib.hid HQ
    clear hk hC hE HP HQ
    go_wp2_with fail
    refine (HQH.out _).mono ?_
    rintro e w3 ⟨k2, rfl, hk2, hC2, hE2⟩
  · have HZ := Lib.hid (And.intro hk2 (And.intro hC2 hE2))
    clear hk2 hC2 hE2 HQH HSB
    go_wp2_with fail
    obtain ⟨hk, hC, hE⟩ := HF.out
    obtain ⟨hk2, hC2, hE2⟩ := HZ.out
    have hb3 := (Below.refl _ w3).alloc (Nat.le_refl _) (.cells #[.pointer none, .int .i64 0] 82)
    refine bodyPost_ret (results_tmp rfl _ _ _) rfl ⟨k + k2, rfl, by omega, by have h5 := hC2.below hb3; rwa [show fs + (k : Int) + (k2 : Int) = fs + ((k + k2 : Nat) : Int) by omega] at h5, ((hE.trans (Else.of_below ((Below.refl _ w2).alloc (Nat.le_refl _) _))).trans hE2).trans (Else.of_below hb3)⟩
  · have HZ := Lib.hid (And.intro hk2 (And.intro hC2 hE2))
    clear hk2 hC2 hE2 HQH HSB
    go_wp2_with fail
    obtain ⟨hk, hC, hE⟩ := HF.out
    obtain ⟨hk2, hC2, hE2⟩ := HZ.out
    have hb3 := (Below.refl _ w3).alloc (Nat.le_refl _) (.cells #[.pointer (some ⟨cb, 0, none⟩), .int .i64 (rb : Nat)] 82)
    refine bodyPost_ret (results_tmp rfl _ _ _) rfl ⟨k + k2, rfl, by omega, by have h5 := hC2.below hb3; rwa [show fs + (k : Int) + (k2 : Int) = fs + ((k + k2 : Nat) : Int) by omega] at h5, ((hE.trans (Else.of_below ((Below.refl _ w2).alloc (Nat.le_refl _) _))).trans hE2).trans (Else.of_below hb3)⟩
  · have HZ := Lib.hid (And.intro hk2 (And.intro hC2 hE2))
    clear hk2 hC2 hE2 HQH HSB
    go_wp2_with fail
    obtain ⟨hk, hC, hE⟩ := HF.out
    obtain ⟨hk2, hC2, hE2⟩ := HZ.out
    have hb3 := (Below.refl _ w3).alloc (Nat.le_refl _) (.cells #[.pointer none, .int .i64 0] 82)
    refine bodyPost_ret (results_tmp rfl _ _ _) rfl ⟨k + k2, rfl, by omega, by have h5 := hC2.below hb3; rwa [show fs + (k : Int) + (k2 : Int) = fs + ((k + k2 : Nat) : Int) by omega] at h5, ((hE.trans (Else.of_below ((Below.refl _ w2).alloc (Nat.le_refl _) _))).trans hE2).trans (Else.of_below hb3)⟩
  · have hx := (hE2.block w2.heap.size (by simp) fun hx => Nat.lt_irrefl _ (HSB.out _ hx)).trans (heap_alloc_new w2 _)
    have d1 : (w3.alloc (.cells #[.pointer (some ⟨cb, 0, none⟩), .int .i64 (rb : Nat)] 82)).cell? ⟨w2.heap.size, 1, none⟩ = some (.int .i64 (ra : Nat)) := cell_of_row _ _ 1 _ _ (0, 0) ((Below.heap_alloc w3 _ _ (Array.getElem?_eq_some_iff.1 hx).1).trans hx)
    clear hx
    by_cases hab : ra = rb
    · have f1 : ((ra : Int) == (rb : Int)) = true := by subst hab; simp
      have HZ := Lib.hid (And.intro hk2 (And.intro hC2 hE2))
      clear hk2 hC2 hE2 HQH HSB
      go_wp2_with fail
      obtain ⟨hk, hC, hE⟩ := HF.out
      obtain ⟨hk2, hC2, hE2⟩ := HZ.out
      have hb3 := (Below.refl _ w3).alloc (Nat.le_refl _) (.cells #[.pointer (some ⟨cb, 0, none⟩), .int .i64 (rb : Nat)] 82)
      refine bodyPost_ret (results_tmp rfl _ _ _) rfl ⟨k + k2, by simp [hab], by omega, by have h5 := hC2.below hb3; rwa [show fs + (k : Int) + (k2 : Int) = fs + ((k + k2 : Nat) : Int) by omega] at h5, ((hE.trans (Else.of_below ((Below.refl _ w2).alloc (Nat.le_refl _) _))).trans hE2).trans (Else.of_below hb3)⟩
    · have f1 : ((ra : Int) == (rb : Int)) = false := by simp; omega
      have HZ := Lib.hid (And.intro hk2 (And.intro hC2 hE2))
      clear hk2 hC2 hE2 HQH HSB
      go_wp2_with fail
      obtain ⟨hk, hC, hE⟩ := HF.out
      obtain ⟨hk2, hC2, hE2⟩ := HZ.out
      have hb3 := (Below.refl _ w3).alloc (Nat.le_refl _) (.cells #[.pointer (some ⟨cb, 0, none⟩), .int .i64 (rb : Nat)] 82)
      refine bodyPost_ret (results_tmp rfl _ _ _) rfl ⟨k + k2, by simp [hab], by omega, by have h5 := hC2.below hb3; rwa [show fs + (k : Int) + (k2 : Int) = fs + ((k + k2 : Nat) : Int) by omega] at h5, ((hE.trans (Else.of_below ((Below.refl _ w2).alloc (Nat.le_refl _) _))).trans hE2).trans (Else.of_below hb3)⟩
end
end Go.Proofs.YtbnpmeaaaecciaaGreat
/- unify: grow: one class more, put together. -/
namespace Go.Proofs.YtbnpmeaaaecciaaGreat
open Go.RowKit
open Un (Else StM rowI UFo own_else dg swp wp_world paint)
set_option maxRecDepth 100000
section
variable {O T : Nat → Prop} {w w' V : World} {cb : Nat} {A : Adr} {st : Int} {cl : Bool} {n : Nat} {G : List Gn} {kn : Kn} {nx col ro col' ro' : Nat → Nat} {fs fs' : Int}
/-- Where the closure lies with one class more. -/
def Adr.up (A : Adr) (f0 c fo : Nat) (K N : Value) (S : Nat → Prop) : Adr := { A with f0 := f0, c := c, fo := fo, K := K, N := N, S := S }
theorem own_cells {base : Nat} {e : TypeId} {size m g c : Nat} {xs : List Value} (h : w.ownsRow base e size (.slice (some ⟨g, 0, none⟩) m c) m xs) (_hm : 0 < m) : ∃ cs, w.heap[g]? = some (Obj.cells cs e) := by
  rcases h.2 with ⟨hv, _⟩ | ⟨g', cap, cur, hv, _, hg, _⟩
  · cases hv
  · cases hv; exact ⟨_, hg⟩
theorem StX.obcb {S : Nat → Prop} {x0 x1 x2 x6 x7 : Value} {f0 c fo ob : Nat} (h : StX S w cb x0 x1 x2 f0 c fo ob x6 x7 n col ro fs) : ob ≠ cb := by
  intro e
  rcases h with h | ⟨_, _, h1, h2⟩
  · obtain ⟨_, _, ⟨_, _, hm, _⟩, _⟩ := h.map
    rw [e, h.blk] at hm
    cases hm
  · obtain ⟨_, _, ⟨_, _, hm, _⟩, _⟩ := h2
    rw [e, h1] at hm
    cases hm
/-- The sets' cells beside the two rows. -/
theorem StX.rows {S : Nat → Prop} {x0 x1 x2 x6 x7 y6 y7 : Value} {f0 c fo ob : Nat} (h : StX S w cb x0 x1 x2 f0 c fo ob x6 x7 n col ro fs) (he : Else T w V) (h2 : ¬ T ob) (h3 : f0 ≠ cb → ¬ T f0) (h4 : ¬ S cb → ∀ k, S k → ¬ T k)
    (hb : ∀ F, w.heap[cb]? = some (Obj.cells #[x0, x1, x2, F, .int .i64 n, .map (some ob), x6, x7] 69) → V.heap[cb]? = some (Obj.cells #[x0, x1, x2, F, .int .i64 n, .map (some ob), y6, y7] 69)) : StX S V cb x0 x1 x2 f0 c fo ob y6 y7 n col ro fs := by
  rcases h with h | ⟨e1, e2, e3, e4⟩
  · have hne : f0 ≠ cb := fun e => Un.row_ne h.row h.blk (by decide) (by rw [e]; rfl)
    exact .inl ⟨hb _ h.blk, h.map.block (he.block ob h.map.lt h2), h.ncb, h.nob, h.nf0, own_else h.row he (fun k hk => by cases hk; exact h3 hne), h.uf.keep he (h4 h.ncb)⟩
  · subst e1
    exact .inr ⟨rfl, e2, hb _ e3, e4.block (he.block ob e4.lt h2)⟩
theorem grow_fin (h : ClM O w cb A st cl n G kn nx col ro fs) {K' N' : Value} {S' : Nat → Prop} {f0' c' fo' : Nat} (he : Else (fun k => k = cb ∨ A.K.ownBlock = some k ∨ A.N.ownBlock = some k) w V)
    (kr : V.ownsRow 0 104 2 K' (n + 1) (knR (n + 1) kn)) (nr : V.ownsRow 0 3 1 N' (n + 1) (rowI (n + 1) nx))
    (hK : K'.ownBlock = A.K.ownBlock ∨ ∃ b, K'.ownBlock = some b ∧ w.heap.size ≤ b) (hN : N'.ownBlock = A.N.ownBlock ∨ ∃ b, N'.ownBlock = some b ∧ w.heap.size ≤ b) (hKN : ∀ k, K'.ownBlock = some k → N'.ownBlock ≠ some k)
    (he2 : Else (fun k => A.S k ∨ k = cb) V w') (hs : StM S' w' cb (.int .i64 st) (.bool cl) (.pointer (some ⟨A.g, 0, none⟩)) f0' c' fo' A.ob K' N' (n + 1) col ro fs) (hS : ∀ k, S' k → A.S k ∨ V.heap.size ≤ k) (hSb : ∀ k, S' k → k < w'.heap.size) (hf : f0' = A.f0 ∨ V.heap.size ≤ f0') :
    ClM (fun k => O k ∨ w.heap.size ≤ k) w' cb (A.up f0' c' fo' K' N' S') st cl (n + 1) G kn nx col ro fs ∧ Else O w w' := by
  have hsz := he.size
  have hsz2 := he2.size
  have hlt := fun k hk => h.lt (k := k) hk
  have hcb : cb < w.heap.size := hlt _ (.inr (.inr (.inl rfl)))
  have hob : A.ob < w.heap.size := hlt _ (.inr (.inr (.inr (.inl rfl))))
  have hf0 : A.f0 < w.heap.size := hlt _ (.inr (.inr (.inr (.inr (.inl rfl)))))
  have hKk : ∀ k, K'.ownBlock = some k → (A.K.ownBlock = some k ∨ w.heap.size ≤ k) := fun k hk => by
    rcases hK with e | ⟨b, e, hb⟩
    · exact .inl (e ▸ hk)
    · rw [e] at hk; cases hk; exact .inr hb
  have hNk : ∀ k, N'.ownBlock = some k → (A.N.ownBlock = some k ∨ w.heap.size ≤ k) := fun k hk => by
    rcases hN with e | ⟨b, e, hb⟩
    · exact .inl (e ▸ hk)
    · rw [e] at hk; cases hk; exact .inr hb
  have hSw : ∀ k, A.S k → k < w.heap.size := h.sb
  have nK : ∀ k, K'.ownBlock = some k → ¬ A.S k ∧ k ≠ cb ∧ k ≠ A.ob ∧ k ≠ A.f0 := fun k hk => by
    rcases hKk k hk with e | e
    · obtain ⟨a, b, c, d, _⟩ := h.ks k e
      exact ⟨a, b, c, d⟩
    · exact ⟨fun x => by have := hSw k x; omega, by omega, by omega, by omega⟩
  have nN : ∀ k, N'.ownBlock = some k → ¬ A.S k ∧ k ≠ cb ∧ k ≠ A.ob ∧ k ≠ A.f0 := fun k hk => by
    rcases hNk k hk with e | e
    · exact h.ns k e
    · exact ⟨fun x => by have := hSw k x; omega, by omega, by omega, by omega⟩
  have kl : ∀ k, K'.ownBlock = some k → k < V.heap.size := fun k hk => (kr.lt k hk).2
  have nl : ∀ k, N'.ownBlock = some k → k < V.heap.size := fun k hk => (nr.lt k hk).2
  refine ⟨⟨.inl hs, ?_, own_else kr he2 (fun k hk e => e.elim (nK k hk).1 (nK k hk).2.1), own_else nr he2 (fun k hk e => e.elim (nN k hk).1 (nN k hk).2.1), ?_, fun k hk => ⟨fun x => ?_, (nK k hk).2.1, (nK k hk).2.2.1, ?_, hKN k hk⟩, fun k hk => ⟨fun x => ?_, (nN k hk).2.1, (nN k hk).2.2.1, ?_⟩, ?_, hSb⟩, ?_⟩
  · refine GrM.stay (A := A.up f0' c' fo' K' N' S') (w := w) h.gr fun k hk => ?_
    have hk : A.D k := hk
    have hkl := h.gr.blocks hk
    have hd := h.d k hk
    rw [he2.block k (by omega) (fun e => hd (e.elim .inl fun e => .inr (.inl e))), he.block k hkl fun e => hd (by
      rcases e with e | e | e
      · exact .inr (.inl e)
      · exact .inr (.inr (.inr (.inr (.inl e))))
      · exact .inr (.inr (.inr (.inr (.inr e)))))]
  · intro k hk hF
    have hk : A.D k := hk
    have hkl := h.gr.blocks hk
    have hd := h.d k hk
    rcases hF with e | e | e | e | e | e
    · rcases hS k e with e | e
      · exact hd (.inl e)
      · omega
    · exact hd (.inr (.inl e))
    · exact hd (.inr (.inr (.inl e)))
    · have e : k = f0' := e
      rcases hf with f | f
      · exact hd (.inr (.inr (.inr (.inl (e.trans f)))))
      · omega
    · rcases hKk k e with e | e
      · exact hd (.inr (.inr (.inr (.inr (.inl e)))))
      · omega
    · rcases hNk k e with e | e
      · exact hd (.inr (.inr (.inr (.inr (.inr e)))))
      · omega
  · rcases hS k x with e | e
    · exact (nK k hk).1 e
    · have := kl k hk; omega
  · show k ≠ f0'
    rcases hf with f | f
    · rw [f]; exact (nK k hk).2.2.2
    · have := kl k hk; omega
  · rcases hS k x with e | e
    · exact (nN k hk).1 e
    · have := nl k hk; omega
  · show k ≠ f0'
    rcases hf with f | f
    · rw [f]; exact (nN k hk).2.2.2
    · have := nl k hk; omega
  · intro k hk
    rcases hk with hk | e | e | e | e | e | e
    · exact .inl (h.own k (.inl hk))
    · rcases hS k e with e | e
      · exact .inl (h.own k (.inr (.inl e)))
      · exact .inr (by omega)
    · exact .inl (h.own k (.inr (.inr (.inl e))))
    · exact .inl (h.own k (.inr (.inr (.inr (.inl e)))))
    · have e : k = f0' := e
      rcases hf with f | f
      · exact .inl (h.own k (.inr (.inr (.inr (.inr (.inl (e.trans f)))))))
      · exact .inr (by omega)
    · exact (hKk k e).imp (fun e => h.own k (.inr (.inr (.inr (.inr (.inr (.inl e))))))) id
    · exact (hNk k e).imp (fun e => h.own k (.inr (.inr (.inr (.inr (.inr (.inr e))))))) id
  · refine (he.mono fun k e => ?_).trans (he2.mono fun k e => ?_)
    · rcases e with e | e | e
      · exact h.own k (.inr (.inr (.inl e)))
      · exact h.own k (.inr (.inr (.inr (.inr (.inr (.inl e))))))
      · exact h.own k (.inr (.inr (.inr (.inr (.inr (.inr e))))))
    · rcases e with e | e
      · exact h.own k (.inr (.inl e))
      · exact h.own k (.inr (.inr (.inl e)))
end
end Go.Proofs.YtbnpmeaaaecciaaGreat
