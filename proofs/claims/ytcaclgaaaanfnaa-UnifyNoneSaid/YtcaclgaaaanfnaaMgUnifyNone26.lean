/- Texts of one proof, one behind the other. -/
import Derived.Test.YtcaclgaaaanfnaaMgUnifyNone11
import Derived.Test.YtcaclgaaaanfnaaMgUnifyNone25
/- unify: a closure that isn't there. -/
namespace Go.Proofs.Ytcaclgaaaanfnaa
open Go.RowKit
set_option maxRecDepth 100000
theorem err_none (w : World) : Calls Try.prog 29 #[.pointer none] w fun e w' => e = .returned (.int .i64 10) ∧ w' = w := by
  go_enter Try.func29, Try.ntmps29
  go_wp2_with fail
  exact bodyPost_ret (results_tmp rfl _ _ _) rfl ⟨rfl, rfl⟩
theorem steps_none (w : World) : Calls Try.prog 35 #[.pointer none] w fun e w' => e = .returned (.int .i64 0) ∧ w' = w := by
  go_enter Try.func35, Try.ntmps35
  go_wp2_with fail
  exact bodyPost_ret (results_tmp rfl _ _ _) rfl ⟨rfl, rfl⟩
theorem cvars_none (w : World) : Calls Try.prog 31 #[.pointer none] w fun e w' => e = .returned (.slice none 0 0) ∧ w' = w := by
  go_enter Try.func31, Try.ntmps31
  go_wp2_with fail
  exact bodyPost_ret (results_tmp rfl _ _ _) rfl ⟨rfl, rfl⟩
theorem node_none (w : World) (v : Int) : Calls Try.prog 57 #[.pointer none, .int .i64 v] w fun e w' => e = .returned (.tuple #[.int .i64 0, .bool false]) ∧ w' = w := by
  go_enter Try.func57, Try.ntmps57
  go_wp2_with fail
  exact bodyPost_ret (results_tmp2 rfl _ _ _) rfl ⟨rfl, rfl⟩
theorem class_none (w : World) (v : Int) : Calls Try.prog 33 #[.pointer none, .int .i64 v] w fun e w' => e = .returned (.slice none 0 0) ∧ Below w.heap.size w w' := by
  go_enter Try.func33, Try.ntmps33
  go_wp2_with fail
  refine (node_none _ v).mono ?_
  rintro e w' ⟨rfl, rfl⟩
  go_wp2_with fail
  exact bodyPost_ret (results_tmp rfl _ _ _) rfl ⟨rfl, by first | exact Below.refl _ _ | exact (Below.refl _ _).alloc (Nat.le_refl _) _⟩
/-- A part, as it is handed about. -/
def ptV (c : Option Nat) (r : Int) : Value := .agg #[.pointer (c.map fun b => ⟨b, 0, none⟩), .int .i64 r]
theorem load_pt {w : World} {g : Nat} {c : Option Nat} {r : Int} (h0 : w.cell? ⟨g, 0, none⟩ = some (.pointer (c.map fun b => ⟨b, 0, none⟩))) (h1 : w.cell? ⟨g, 1, none⟩ = some (.int .i64 r)) : (loadVar 57 ⟨g, 0, none⟩).run Try.prog w = .ok (ptV c r) w := by
  unfold ptV
  go_simp
theorem cpart_none (w : World) (v : Int) : Calls Try.prog 23 #[.pointer none, .int .i64 v] w fun e w' => e = .returned (.tuple #[ptV none 0, .bool false]) ∧ Below w.heap.size w w' := by
  go_enter Try.func23, Try.ntmps23
  go_wp2_with fail
  refine (node_none _ v).mono ?_
  rintro e w' ⟨rfl, rfl⟩
  go_wp2_with fail
  have hx := heap_alloc_new w (.cells #[.pointer none, .int .i64 0] 57)
  exact bodyPost_ret (results_cell_tmp rfl _ _ w.heap.size (ptV none 0) rfl (load_pt (c := none) (cell_of_row _ _ 0 _ _ (0, 0) hx) (cell_of_row _ _ 1 _ _ (0, 0) hx))) rfl ⟨rfl, (Below.refl _ _).alloc (Nat.le_refl _) _⟩
theorem holds_zero (w : World) : Calls Try.prog 59 #[ptV none 0] w fun e w' => e = .returned (.bool false) ∧ Below w.heap.size w w' := by
  show Calls _ _ #[.agg #[.pointer none, .int .i64 0]] _ _
  go_enter Try.func59, Try.ntmps59
  go_wp2_with fail
  refine (err_none _).mono ?_
  rintro e w' ⟨rfl, rfl⟩
  go_wp2_with fail
  exact bodyPost_ret (results_tmp rfl _ _ _) rfl ⟨rfl, (Below.refl _ _).alloc (Nat.le_refl _) _⟩
theorem kind_zero (w : World) : Calls Try.prog 26 #[ptV none 0] w fun e w' => e = .returned (.int .i64 0) ∧ Below w.heap.size w w' := by
  show Calls _ _ #[.agg #[.pointer none, .int .i64 0]] _ _
  go_enter Try.func26, Try.ntmps26
  go_wp2_with fail
  refine (show Calls _ _ #[.agg #[.pointer none, .int .i64 0]] _ _ from holds_zero _).mono ?_
  rintro e w' ⟨rfl, hb⟩
  go_wp2_with fail
  exact bodyPost_ret (results_tmp rfl _ _ _) rfl ⟨rfl, ((Below.refl _ w).alloc (Nat.le_refl _) _).trans (hb.mono (by simp))⟩
theorem ckind_none (w : World) (v : Int) : Calls Try.prog 32 #[.pointer none, .int .i64 v] w fun e w' => e = .returned (.int .i64 0) ∧ Below w.heap.size w w' := by
  go_enter Try.func32, Try.ntmps32
  go_wp2_with fail
  refine (cpart_none _ v).mono ?_
  rintro e w' ⟨rfl, hb⟩
  have HB := Lib.hid hb
  clear hb
  unfold ptV
  go_wp2_with fail
  refine (show Calls _ _ #[.agg #[.pointer none, .int .i64 0]] _ _ from kind_zero _).mono ?_
  rintro e w2 ⟨rfl, hb2⟩
  have HB2 := Lib.hid hb2
  clear hb2
  go_wp2_with fail
  exact bodyPost_ret (results_tmp rfl _ _ _) rfl ⟨rfl, (HB.out.alloc HB.out.size _).trans (HB2.out.mono (by have := HB.out.size; simp; omega))⟩
theorem same_none (w : World) (a b : Int) : Calls Try.prog 25 #[.pointer none, .int .i64 a, .int .i64 b] w fun e w' => e = .returned (.bool false) ∧ Below w.heap.size w w' := by
  go_enter Try.func25, Try.ntmps25
  go_wp2_with fail
  refine (cpart_none _ a).mono ?_
  rintro e w' ⟨rfl, hb⟩
  have HB := Lib.hid hb
  clear hb
  unfold ptV
  go_wp2_with fail
  refine (cpart_none _ b).mono ?_
  rintro e w2 ⟨rfl, hb2⟩
  have HB2 := Lib.hid hb2
  clear hb2
  unfold ptV
  go_wp2_with fail
  have hB2 : Below w.heap.size w w2 := (HB.out.alloc HB.out.size _).trans (HB2.out.mono (by have := HB.out.size; simp; omega))
  exact bodyPost_ret (results_tmp rfl _ _ _) rfl ⟨rfl, hB2.alloc hB2.size _⟩
theorem cparts_none (w : World) (v : Int) : Calls Try.prog 21 #[.pointer none, .int .i64 v] w fun e w' => e = .returned (.tuple #[.slice none 0 0, .bool false]) ∧ Below w.heap.size w w' := by
  go_enter Try.func21, Try.ntmps21
  go_wp2_with fail
  refine (cpart_none _ v).mono ?_
  rintro e w' ⟨rfl, hb⟩
  have HB := Lib.hid hb
  clear hb
  unfold ptV
  go_wp2_with fail
  refine (show Calls _ _ #[.agg #[.pointer none, .int .i64 0]] _ _ from kind_zero _).mono ?_
  rintro e w2 ⟨rfl, hb2⟩
  have HB2 := Lib.hid hb2
  clear hb2
  go_wp2_with fail
  exact bodyPost_ret (results_tmp2 rfl _ _ _) rfl ⟨rfl, (HB.out.alloc HB.out.size _).trans (HB2.out.mono (by have := HB.out.size; simp; omega))⟩
theorem equate_none (w : World) (k n k' n' : Int) (u u' : Sl) : Calls Try.prog 15 #[.pointer none, tyVal k n (slv u), tyVal k' n' (slv u')] w fun e w' => e = .returned (.int .i64 10) ∧ Below w.heap.size w w' := by
  obtain ⟨u1, u2, u3⟩ := u
  obtain ⟨v1, v2, v3⟩ := u'
  dsimp only [tyVal, slv]
  go_enter Try.func15, Try.ntmps15
  go_wp2_with fail
  refine (err_none _).mono ?_
  rintro e w' ⟨rfl, rfl⟩
  go_wp2_with fail
  exact bodyPost_ret (results_tmp rfl _ _ _) rfl ⟨rfl, by first | exact Below.refl _ _ | exact (Below.refl _ _).alloc (Nat.le_refl _) _ | exact ((Below.refl _ _).alloc (Nat.le_refl _) _).alloc (by simp) _⟩
end Go.Proofs.Ytcaclgaaaanfnaa
/- unify: what a closure tells. -/
namespace Go.Proofs.Ytcaclgaaaanfnaa
open Go.RowKit
open Un (Else StM rowI UFo own_else dg swp wp_world paint)
set_option maxRecDepth 100000
section
variable {O T : Nat → Prop} {w w' : World} {cb : Nat} {A : Adr} {st : Int} {cl : Bool} {n : Nat} {G : List Gn} {kn : Kn} {nx col ro col' ro' : Nat → Nat} {fs fs' : Int}
/-- What Err says. -/
def errN (cl : Bool) : Int := if cl then 7 else 0
theorem err_cl (h : ClM O w cb A st cl n G kn nx col ro fs) : Calls Try.prog 29 #[.pointer (some ⟨cb, 0, none⟩)] w fun e w' => e = .returned (.int .i64 (errN cl)) ∧ w' = w := by
  obtain ⟨hl, hz, c0, c1, c2, c6, c7⟩ := h.cells
  clear h hz c0 c2 c6 c7
  cases cl with
  | true =>
    go_enter Try.func29, Try.ntmps29
    go_wp2_with fail
    exact bodyPost_ret (results_tmp rfl _ _ _) rfl ⟨rfl, rfl⟩
  | false =>
    go_enter Try.func29, Try.ntmps29
    go_wp2_with fail
    exact bodyPost_ret (results_tmp rfl _ _ _) rfl ⟨rfl, rfl⟩
theorem steps_cl (h : ClM O w cb A st cl n G kn nx col ro fs) : Calls Try.prog 35 #[.pointer (some ⟨cb, 0, none⟩)] w fun e w' => e = .returned (.int .i64 st) ∧ w' = w := by
  obtain ⟨hl, hz, c0, c1, c2, c6, c7⟩ := h.cells
  clear h hz c1 c2 c6 c7
  go_enter Try.func35, Try.ntmps35
  go_wp2_with fail
  exact bodyPost_ret (results_tmp rfl _ _ _) rfl ⟨rfl, rfl⟩
theorem node_cl (h : ClM O w cb A st cl n G kn nx col ro fs) (v : Int) (hv : (Lit.int .i64 v).wf = true) : Calls Try.prog 57 #[.pointer (some ⟨cb, 0, none⟩), .int .i64 v] w fun e w' => e = .returned (.tuple #[.int .i64 ((gvar G v).getD 0 : Nat), .bool (gvar G v).isSome]) ∧ Below w.heap.size w w' := by
  obtain ⟨hl, hz, c0, c1, c2, c6, c7⟩ := h.cells
  have HV := var_graph w 0 A.g A.mb A.V A.L G h.gr v hv
  obtain ⟨z, hz'⟩ : ∃ z : Nat, (gvar G v).getD 0 = z := ⟨_, rfl⟩
  obtain ⟨b, hb⟩ : ∃ b, (gvar G v).isSome = b := ⟨_, rfl⟩
  rw [hz', hb] at HV ⊢
  clear h hz c0 c1 c6 c7 hz' hb
  go_enter Try.func57, Try.ntmps57
  go_wp2_with fail
  refine HV.mono ?_
  rintro e w' ⟨rfl, hb2⟩
  go_wp2_with fail
  exact bodyPost_ret (results_tmp2 rfl _ _ _) rfl ⟨rfl, hb2⟩
/-- A node as a part: its class's root. -/
theorem part_cl (h : ClM O w cb A st cl n G kn nx col ro fs) (hst : 0 ≤ fs ∧ fs ≤ 10000000000000) (i : Nat) (hi : i < n) : Calls Try.prog 58 #[.pointer (some ⟨cb, 0, none⟩), .int .i64 (i : Nat)] w fun e w' => ∃ k : Nat, e = .returned (ptV (some cb) (ro i : Nat)) ∧ k ≤ dg n ∧ ClM O w' cb A st cl n G kn nx col ro (fs + k) ∧ Else A.S w w' := by
  have hb0 : Below w.heap.size w (w.alloc (.cells #[.pointer none, .int .i64 0] 57)) := (Below.refl _ _).alloc (Nat.le_refl _) _
  have h1 := h.below hb0
  have HR := Un.root_st (h1.stm (by omega)) (by omega) i hi
  obtain ⟨hl, hz, c0, c1, c2, c6, c7⟩ := h1.cells
  have HH := Lib.hid (And.intro h h1)
  clear h h1 hz c0 c1 c2 c6 c7 hb0
  go_enter Try.func58, Try.ntmps58
  go_wp2_with fail
  refine HR.mono ?_
  rintro e w2 ⟨k, rfl, hk, hs, he⟩
  have hgS : ¬ A.S w.heap.size := fun hx => Nat.lt_irrefl _ (HH.out.1.sb _ hx)
  have hx2 := (he.block w.heap.size (by simp) hgS).trans (heap_alloc_new w (.cells #[.pointer none, .int .i64 0] 57))
  have hxl := (Array.getElem?_eq_some_iff.1 hx2).1
  have d0 : w2.cell? ⟨w.heap.size, 0, none⟩ = some (.pointer none) := cell_of_row w2 _ 0 _ _ (0, 0) hx2
  have d1 : w2.cell? ⟨w.heap.size, 1, none⟩ = some (.int .i64 0) := cell_of_row w2 _ 1 _ _ (0, 0) hx2
  have z0 : w2.frozen? ⟨w.heap.size, 0, none⟩ = false := by simp [World.frozen?, hx2]
  have z1 : w2.frozen? ⟨w.heap.size, 1, none⟩ = false := by simp [World.frozen?, hx2]
  have HS := Lib.hid (And.intro hk (And.intro hs (And.intro he hx2)))
  clear hk hs he hx2 HR hgS
  go_wp2_with fail
  obtain ⟨hk, hs, he, hx2⟩ := HS.out
  have hC2 := HH.out.2.turn he hs
  have hE : Else (fun k => k = w.heap.size) w2 ((w2.setCell ⟨w.heap.size, 0, none⟩ (.pointer (some ⟨cb, 0, none⟩))).setCell ⟨w.heap.size, 1, none⟩ (.int .i64 (ro i : Nat))) := (Un.Else.set (S := fun k => k = w.heap.size) w2 (p := ⟨w.heap.size, 0, none⟩) rfl _).trans (Un.Else.set (S := fun k => k = w.heap.size) _ (p := ⟨w.heap.size, 1, none⟩) rfl _)
  have hx4 := heap_setCell_same _ w.heap.size 1 _ _ (.int .i64 (ro i : Nat)) (heap_setCell_same w2 w.heap.size 0 _ _ (.pointer (some ⟨cb, 0, none⟩)) hx2)
  refine bodyPost_ret (results_box rfl _ _ w.heap.size (ptV (some cb) (ro i : Nat)) rfl (load_pt (c := some cb) (cell_of_row _ _ 0 _ _ (0, 0) hx4) (cell_of_row _ _ 1 _ _ (0, 0) hx4))) rfl ⟨k, rfl, hk, hC2.aside hE fun j hj e => by have := HH.out.1.lt hj; omega, ?_⟩
  exact (((Else.of_below (S := fun k => A.S k ∨ k = w.heap.size) ((Below.refl _ w).alloc (Nat.le_refl _) _)).trans (he.mono fun k hk => .inl hk)).trans (hE.mono fun k hk => .inr hk)).old fun k hk => hk.imp id fun e => by omega
/-- A part, stored into a box of one's own. -/
theorem pt_store {w2 : World} {g : Nat} {x y : Value} (hx : w2.heap[g]? = some (Obj.cells #[x, y] 57)) (c : Option Nat) (r : Int) :
    ((w2.setCell ⟨g, 0, none⟩ (.pointer (c.map fun b => ⟨b, 0, none⟩))).setCell ⟨g, 1, none⟩ (.int .i64 r)).heap[g]? = some (Obj.cells #[.pointer (c.map fun b => ⟨b, 0, none⟩), .int .i64 r] 57) ∧ Else (fun k => k = g) w2 ((w2.setCell ⟨g, 0, none⟩ (.pointer (c.map fun b => ⟨b, 0, none⟩))).setCell ⟨g, 1, none⟩ (.int .i64 r)) :=
  ⟨heap_setCell_same _ g 1 _ _ (.int .i64 r) (heap_setCell_same w2 g 0 _ _ _ hx), (Un.Else.set (S := fun k => k = g) w2 (p := ⟨g, 0, none⟩) rfl _).trans (Un.Else.set (S := fun k => k = g) _ (p := ⟨g, 1, none⟩) rfl _)⟩
theorem pt_load {w2 : World} {g : Nat} {c : Option Nat} {r : Int} (hx : w2.heap[g]? = some (Obj.cells #[.pointer (c.map fun b => ⟨b, 0, none⟩), .int .i64 r] 57)) : (loadVar 57 ⟨g, 0, none⟩).run Try.prog w2 = .ok (ptV c r) w2 :=
  load_pt (cell_of_row _ _ 0 _ _ (0, 0) hx) (cell_of_row _ _ 1 _ _ (0, 0) hx)
theorem pt_fin {w2 w4 : World} {g : Nat} (h : ClM O w cb A st cl n G kn nx col ro fs) (h2 : ClM O w2 cb A st cl n G kn nx col ro fs') (hE : Else (fun k => A.S k ∨ w.heap.size ≤ k) w w2) (hE4 : Else (fun k => k = g) w2 w4) (hg : w.heap.size ≤ g) : ClM O w4 cb A st cl n G kn nx col ro fs' ∧ Else A.S w w4 :=
  ⟨h2.aside hE4 fun j hj e => by have := h.lt hj; omega, (hE.trans (hE4.mono fun k hk => .inr (by omega))).old fun k hk => by rcases hk with hk | hk; exact .inl hk; exact .inr hk⟩
/-- What a variable's class stands for, as a part. -/
theorem cpart_cl (h : ClM O w cb A st cl n G kn nx col ro fs) (hst : 0 ≤ fs ∧ fs ≤ 10000000000000) (v : Int) (hv : (Lit.int .i64 v).wf = true) (hn : ∀ i, gvar G v = some i → i < n) :
    Calls Try.prog 23 #[.pointer (some ⟨cb, 0, none⟩), .int .i64 v] w fun e w' => ∃ k : Nat, e = .returned (match gvar G v with | some i => .tuple #[ptV (some cb) (ro i : Nat), .bool true] | none => .tuple #[ptV none 0, .bool false]) ∧ k ≤ dg n ∧ ClM O w' cb A st cl n G kn nx col ro (fs + k) ∧ Else A.S w w' := by
  have hb0 : Below w.heap.size w (w.alloc (.cells #[.pointer none, .int .i64 0] 57)) := (Below.refl _ _).alloc (Nat.le_refl _) _
  have h1 := h.below hb0
  have HV := node_cl h1 v hv
  have hx := heap_alloc_new w (.cells #[.pointer none, .int .i64 0] 57)
  have HH := Lib.hid (And.intro h (And.intro h1 hx))
  clear h h1 hb0 hx
  cases hg : gvar G v with
  | none =>
    rw [hg] at HV
    clear hg
    go_enter Try.func23, Try.ntmps23
    go_wp2_with fail
    refine HV.mono ?_
    rintro e w2 ⟨rfl, hb⟩
    have hx2 := (hb.block _ (by simp)).trans HH.out.2.2
    have d0 : w2.cell? ⟨w.heap.size, 0, none⟩ = some (.pointer none) := cell_of_row w2 _ 0 _ _ (0, 0) hx2
    have d1 : w2.cell? ⟨w.heap.size, 1, none⟩ = some (.int .i64 0) := cell_of_row w2 _ 1 _ _ (0, 0) hx2
    have z0 : w2.frozen? ⟨w.heap.size, 0, none⟩ = false := by simp [World.frozen?, hx2]
    have z1 : w2.frozen? ⟨w.heap.size, 1, none⟩ = false := by simp [World.frozen?, hx2]
    have HB := Lib.hid (And.intro hb hx2)
    clear hb hx2 HV
    go_wp2_with fail
    obtain ⟨hb, hx2⟩ := HB.out
    obtain ⟨hx4, hE4⟩ := pt_store hx2 none 0
    obtain ⟨r1, r2⟩ := pt_fin HH.out.1 (HH.out.2.1.below hb) (((Else.of_below (S := fun k => A.S k ∨ w.heap.size ≤ k) ((Below.refl _ w).alloc (Nat.le_refl _) _)).trans (Else.of_below hb))) hE4 (Nat.le_refl _)
    exact bodyPost_ret (results_cell_tmp rfl _ _ w.heap.size (ptV none 0) rfl (pt_load (c := none) hx4)) rfl ⟨0, rfl, Nat.zero_le _, by simpa using r1, r2⟩
  | some i =>
    rw [hg] at HV
    have hi := hn i hg
    clear hg
    go_enter Try.func23, Try.ntmps23
    go_wp2_with fail
    refine HV.mono ?_
    rintro e w2 ⟨rfl, hb⟩
    have HP := part_cl (HH.out.2.1.below hb) hst i hi
    have hx2 := (hb.block _ (by simp)).trans HH.out.2.2
    have HB := Lib.hid (And.intro hb hx2)
    clear hb hx2 HV
    go_wp2_with fail
    refine HP.mono ?_
    rintro e w3 ⟨k, rfl, hk, hC, hE⟩
    have hg : ¬ A.S w.heap.size := fun hx => Nat.lt_irrefl _ (HH.out.1.sb _ hx)
    have hx3 := (hE.block w.heap.size (Array.getElem?_eq_some_iff.1 HB.out.2).1 hg).trans HB.out.2
    have d0 : w3.cell? ⟨w.heap.size, 0, none⟩ = some (.pointer none) := cell_of_row w3 _ 0 _ _ (0, 0) hx3
    have d1 : w3.cell? ⟨w.heap.size, 1, none⟩ = some (.int .i64 0) := cell_of_row w3 _ 1 _ _ (0, 0) hx3
    have z0 : w3.frozen? ⟨w.heap.size, 0, none⟩ = false := by simp [World.frozen?, hx3]
    have z1 : w3.frozen? ⟨w.heap.size, 1, none⟩ = false := by simp [World.frozen?, hx3]
    have HK := Lib.hid (And.intro hk (And.intro hC (And.intro hE hx3)))
    clear hk hC hE hx3 HP hg
    unfold ptV
    go_wp2_with fail
    obtain ⟨hk, hC, hE, hx3⟩ := HK.out
    obtain ⟨hx4, hE4⟩ := pt_store hx3 (some cb) (ro i : Nat)
    obtain ⟨r1, r2⟩ := pt_fin HH.out.1 hC ((((Else.of_below (S := fun k => A.S k ∨ w.heap.size ≤ k) ((Below.refl _ w).alloc (Nat.le_refl _) _)).trans (Else.of_below HB.out.1))).trans (hE.mono fun k hk => .inl hk)) hE4 (Nat.le_refl _)
    exact bodyPost_ret (results_cell_tmp rfl _ _ w.heap.size (ptV (some cb) (ro i : Nat)) rfl (pt_load (c := some cb) hx4)) rfl ⟨k, rfl, hk, r1, r2⟩
end
end Go.Proofs.Ytcaclgaaaanfnaa
/- unify: a part's kind, a variable's. -/
namespace Go.Proofs.Ytcaclgaaaanfnaa
open Go.RowKit
open Un (Else StM rowI UFo own_else dg swp wp_world paint)
set_option maxRecDepth 100000
section
variable {O T : Nat → Prop} {w w' : World} {cb : Nat} {A : Adr} {st : Int} {cl : Bool} {n : Nat} {G : List Gn} {kn : Kn} {nx col ro col' ro' : Nat → Nat} {fs fs' : Int}
/-- A node's kind, or none's. -/
def kindO (G : List Gn) : Option Nat → Int
  | some i => ((G[i]?).map fun p => p.1).getD 0
  | none => 0
theorem kind_oi (hG : GrM 0 w A.g A.V A.mb A.L G) (o : Option Nat) : Calls Try.prog 60 #[.pointer (some ⟨A.g, 0, none⟩), .int .i64 (oi o)] w fun e w' => e = .returned (.int .i64 (kindO G o)) ∧ Below w.heap.size w w' := by
  cases o with
  | none => exact kind_out w 0 A.g A.mb A.V A.L G hG (-1) (by omega)
  | some i =>
    by_cases hi : i < G.length
    · have := kind_in w 0 A.g A.mb A.V A.L G hG i hi
      simp only [kindO, List.getElem?_eq_getElem hi, Option.map_some, Option.getD_some]
      exact this
    · have := kind_out w 0 A.g A.mb A.V A.L G hG (i : Int) (by omega)
      simp only [kindO, List.getElem?_eq_none (Nat.le_of_not_lt hi), Option.map_none, Option.getD_none]
      exact this
theorem holds_cl (h : ClM O w cb A st false n G kn nx col ro fs) (r : Int) : Calls Try.prog 59 #[ptV (some cb) r] w fun e w' => e = .returned (.bool true) ∧ Below w.heap.size w w' := by
  have hb0 : Below w.heap.size w (w.alloc (.cells #[.pointer (some ⟨cb, 0, none⟩), .int .i64 r] 57)) := (Below.refl _ _).alloc (Nat.le_refl _) _
  have HE := err_cl (h.below hb0)
  show Calls _ _ #[.agg #[.pointer (some ⟨cb, 0, none⟩), .int .i64 r]] _ _
  clear h hb0
  go_enter Try.func59, Try.ntmps59
  go_wp2_with fail
  refine HE.mono ?_
  rintro e w' ⟨rfl, rfl⟩
  go_wp2_with fail
  exact bodyPost_ret (results_tmp rfl _ _ _) rfl ⟨rfl, (Below.refl _ _).alloc (Nat.le_refl _) _⟩
theorem pkind_cl (h : ClM O w cb A st false n G kn nx col ro fs) (r : Nat) (hr : r < n) : Calls Try.prog 26 #[ptV (some cb) (r : Nat)] w fun e w' => e = .returned (.int .i64 (kindO G (kn r).1)) ∧ Below w.heap.size w w' := by
  have hb0 : Below w.heap.size w (w.alloc (.cells #[.pointer (some ⟨cb, 0, none⟩), .int .i64 (r : Nat)] 57)) := (Below.refl _ _).alloc (Nat.le_refl _) _
  have h1 := h.below hb0
  have HO := holds_cl h1 (r : Nat)
  have hx := heap_alloc_new w (.cells #[.pointer (some ⟨cb, 0, none⟩), .int .i64 (r : Nat)] 57)
  have HH := Lib.hid (And.intro h1 hx)
  show Calls _ _ #[.agg #[.pointer (some ⟨cb, 0, none⟩), .int .i64 (r : Nat)]] _ _
  clear h h1 hb0 hx
  go_enter Try.func26, Try.ntmps26
  go_wp2_with fail
  refine (show Calls _ _ #[.agg #[.pointer (some ⟨cb, 0, none⟩), .int .i64 (r : Nat)]] _ _ from HO).mono ?_
  rintro e w2 ⟨rfl, hb⟩
  have hC := HH.out.1.below hb
  have hx2 := (hb.block _ (by simp)).trans HH.out.2
  have d0 : w2.cell? ⟨w.heap.size, 0, none⟩ = some (.pointer (some ⟨cb, 0, none⟩)) := cell_of_row w2 _ 0 _ _ (0, 0) hx2
  have d1 : w2.cell? ⟨w.heap.size, 1, none⟩ = some (.int .i64 (r : Nat)) := cell_of_row w2 _ 1 _ _ (0, 0) hx2
  obtain ⟨hl, hz, c0, c1, c2, c6, c7⟩ := hC.cells
  obtain ⟨kb, cK, hK, _, _⟩ := Un.own_shape hC.kr (by omega)
  have hrow := hC.kr
  rw [hK] at c6 hrow
  have hlen := knR_len n kn
  have a0 : w2.cell? ⟨kb, r * 2, none⟩ = some (.int .i64 (oi (kn r).1)) := (hrow.cellAt (r * 2) (by omega)).trans (knR_get hr).1
  have HKD := kind_oi (w := w2.drew) (A := A) (hC.below (Below.refl _ w2).drew).gr (kn r).1
  have HB := Lib.hid hb
  clear hb hC hx2 hz c0 c1 c7 hK hrow hlen HO
  go_wp2_with fail
  obtain ⟨km, hkm⟩ : ∃ z, oi (kn r).1 = z := ⟨_, rfl⟩
  rw [hkm] at a0 HKD
  obtain ⟨S0, hSof, hSto⟩ : ∃ S0 : World → Prop, (∀ W : World, Below w2.heap.size w2 W → S0 W) ∧ (∀ W, S0 W → W.cell? ⟨w.heap.size, 0, none⟩ = some (.pointer (some ⟨cb, 0, none⟩)) ∧ W.cell? ⟨w.heap.size, 1, none⟩ = some (.int .i64 (r : Nat)) ∧ W.cell? ⟨cb, 2, none⟩ = some (.pointer (some ⟨A.g, 0, none⟩)) ∧ W.cell? ⟨cb, 6, none⟩ = some (.slice (some ⟨kb, 0, none⟩) n cK) ∧ W.cell? ⟨kb, r * 2, none⟩ = some (.int .i64 km)) :=
    ⟨fun W => Below w2.heap.size w2 W, fun _ h => h, fun W hb => ⟨(hb.cell (World.block_lt_of_cell? _ _ d0)).trans d0, (hb.cell (World.block_lt_of_cell? _ _ d1)).trans d1, (hb.cell (World.block_lt_of_cell? _ _ c2)).trans c2, (hb.cell (World.block_lt_of_cell? _ _ c6)).trans c6, (hb.cell (World.block_lt_of_cell? _ _ a0)).trans a0⟩⟩
  have hS : S0 w2.drew := hSof _ (Below.refl _ _).drew
  have EX := Lib.hid hSto
  have HSOF := Lib.hid hSof
  have HKH := Lib.hid HKD
  clear hSof hSto HKD d0 d1 c2 c6 a0
  refine wp_region_held (S := S0) (by kernel_rfl) ?_
  change wpAnyH _ _ _ _ _ 17 (List.replicate 17 false).toArray _ w2.drew
  simp only [List.replicate_succ, List.replicate_zero]
  refine any_take (i := 0) (some 6) (.pointer (some ⟨w.heap.size, 0, none⟩)) rfl (by rfl) (by kernel_rfl) (by kernel_rfl) (by kernel_rfl) (fun _ _ _ h => h) (Or.inl ⟨by kernel_rfl, (fun W hw => by clear hw; go_simp)⟩) hS ?_
  simp only [Act.put, List.setIfInBounds_toArray, List.set_cons_zero, List.set_cons_succ]
  refine any_take (i := 1) (some 7) (.pointer (some ⟨cb, 0, none⟩)) rfl (by rfl) (by kernel_rfl) (by kernel_rfl) (by kernel_rfl) (fun _ _ _ h => h) (Or.inl ⟨by kernel_rfl, (fun W hw => by obtain ⟨n0, n1, n2, n3, n4⟩ := EX.out W hw; clear hw; go_simp)⟩) hS ?_
  simp only [Act.put, List.setIfInBounds_toArray, List.set_cons_zero, List.set_cons_succ]
  refine any_take (i := 2) (some 8) (.pointer (some ⟨cb, 0, none⟩)) rfl (by rfl) (by kernel_rfl) (by kernel_rfl) (by kernel_rfl) (fun _ _ _ h => h) (Or.inl ⟨by kernel_rfl, (fun W hw => by clear hw; go_simp)⟩) hS ?_
  simp only [Act.put, List.setIfInBounds_toArray, List.set_cons_zero, List.set_cons_succ]
  refine any_take (i := 3) (some 9) (.pointer (some ⟨cb, 2, none⟩)) rfl (by rfl) (by kernel_rfl) (by kernel_rfl) (by kernel_rfl) (fun _ _ _ h => h) (Or.inl ⟨by kernel_rfl, (fun W hw => by clear hw; go_simp)⟩) hS ?_
  simp only [Act.put, List.setIfInBounds_toArray, List.set_cons_zero, List.set_cons_succ]
  refine any_take (i := 4) (some 10) (.pointer (some ⟨A.g, 0, none⟩)) rfl (by rfl) (by kernel_rfl) (by kernel_rfl) (by kernel_rfl) (fun _ _ _ h => h) (Or.inl ⟨by kernel_rfl, (fun W hw => by obtain ⟨n0, n1, n2, n3, n4⟩ := EX.out W hw; clear hw; go_simp)⟩) hS ?_
  simp only [Act.put, List.setIfInBounds_toArray, List.set_cons_zero, List.set_cons_succ]
  refine any_take (i := 5) (some 11) (.pointer (some ⟨w.heap.size, 0, none⟩)) rfl (by rfl) (by kernel_rfl) (by kernel_rfl) (by kernel_rfl) (fun _ _ _ h => h) (Or.inl ⟨by kernel_rfl, (fun W hw => by clear hw; go_simp)⟩) hS ?_
  simp only [Act.put, List.setIfInBounds_toArray, List.set_cons_zero, List.set_cons_succ]
  refine any_take (i := 6) (some 12) (.pointer (some ⟨cb, 0, none⟩)) rfl (by rfl) (by kernel_rfl) (by kernel_rfl) (by kernel_rfl) (fun _ _ _ h => h) (Or.inl ⟨by kernel_rfl, (fun W hw => by obtain ⟨n0, n1, n2, n3, n4⟩ := EX.out W hw; clear hw; go_simp)⟩) hS ?_
  simp only [Act.put, List.setIfInBounds_toArray, List.set_cons_zero, List.set_cons_succ]
  refine any_take (i := 7) (some 13) (.pointer (some ⟨cb, 0, none⟩)) rfl (by rfl) (by kernel_rfl) (by kernel_rfl) (by kernel_rfl) (fun _ _ _ h => h) (Or.inl ⟨by kernel_rfl, (fun W hw => by clear hw; go_simp)⟩) hS ?_
  simp only [Act.put, List.setIfInBounds_toArray, List.set_cons_zero, List.set_cons_succ]
  refine any_take (i := 8) (some 14) (.pointer (some ⟨cb, 6, none⟩)) rfl (by rfl) (by kernel_rfl) (by kernel_rfl) (by kernel_rfl) (fun _ _ _ h => h) (Or.inl ⟨by kernel_rfl, (fun W hw => by clear hw; go_simp)⟩) hS ?_
  simp only [Act.put, List.setIfInBounds_toArray, List.set_cons_zero, List.set_cons_succ]
  refine any_take (i := 9) (some 15) (.slice (some ⟨kb, 0, none⟩) n cK) rfl (by rfl) (by kernel_rfl) (by kernel_rfl) (by kernel_rfl) (fun _ _ _ h => h) (Or.inl ⟨by kernel_rfl, (fun W hw => by obtain ⟨n0, n1, n2, n3, n4⟩ := EX.out W hw; clear hw; go_simp)⟩) hS ?_
  simp only [Act.put, List.setIfInBounds_toArray, List.set_cons_zero, List.set_cons_succ]
  refine any_take (i := 10) (some 16) (.pointer (some ⟨w.heap.size, 1, none⟩)) rfl (by rfl) (by kernel_rfl) (by kernel_rfl) (by kernel_rfl) (fun _ _ _ h => h) (Or.inl ⟨by kernel_rfl, (fun W hw => by clear hw; go_simp)⟩) hS ?_
  simp only [Act.put, List.setIfInBounds_toArray, List.set_cons_zero, List.set_cons_succ]
  refine any_take (i := 11) (some 17) (.int .i64 (r : Nat)) rfl (by rfl) (by kernel_rfl) (by kernel_rfl) (by kernel_rfl) (fun _ _ _ h => h) (Or.inl ⟨by kernel_rfl, (fun W hw => by obtain ⟨n0, n1, n2, n3, n4⟩ := EX.out W hw; clear hw; go_simp)⟩) hS ?_
  simp only [Act.put, List.setIfInBounds_toArray, List.set_cons_zero, List.set_cons_succ]
  refine any_take (i := 12) (some 18) (.pointer (some ⟨kb, r * 2, none⟩)) rfl (by rfl) (by kernel_rfl) (by kernel_rfl) (by kernel_rfl) (fun _ _ _ h => h) (Or.inl ⟨by kernel_rfl, (fun W hw => by clear hw; go_simp)⟩) hS ?_
  simp only [Act.put, List.setIfInBounds_toArray, List.set_cons_zero, List.set_cons_succ]
  refine any_take (i := 13) (some 19) (.pointer (some ⟨kb, r * 2, none⟩)) rfl (by rfl) (by kernel_rfl) (by kernel_rfl) (by kernel_rfl) (fun _ _ _ h => h) (Or.inl ⟨by kernel_rfl, (fun W hw => by clear hw; go_simp)⟩) hS ?_
  simp only [Act.put, List.setIfInBounds_toArray, List.set_cons_zero, List.set_cons_succ]
  refine any_take (i := 14) (some 20) (.int .i64 km) rfl (by rfl) (by kernel_rfl) (by kernel_rfl) (by kernel_rfl) (fun _ _ _ h => h) (Or.inl ⟨by kernel_rfl, (fun W hw => by obtain ⟨n0, n1, n2, n3, n4⟩ := EX.out W hw; clear hw; go_simp)⟩) hS ?_
  simp only [Act.put, List.setIfInBounds_toArray, List.set_cons_zero, List.set_cons_succ]
  refine wpAnyH_all (rs := [15]) (by kernel_rfl) (by simp) fun q hq => ?_
  obtain rfl : q = 15 := by simpa using hq
  refine ops_call (d := some 21) rfl (by rfl) (by kernel_rfl) (by go_simp) (HKH.out.mono ?_)
  rintro e w3 ⟨rfl, hb3⟩
  have hb3 : Below w2.heap.size w2 w3 := ((Below.refl _ w2).drew).trans hb3
  have hS3 := HSOF.out w3 hb3
  have HB3 := Lib.hid hb3
  clear hb3
  refine ⟨_, rfl, hS3, ?_⟩
  simp only [Act.put, List.setIfInBounds_toArray, List.set_cons_zero, List.set_cons_succ]
  refine any_take (i := 16) (some 2) (.int .i64 (kindO G (kn r).1)) rfl (by rfl) (by kernel_rfl) (by kernel_rfl) (by kernel_rfl) (fun _ _ _ h => h) (Or.inl ⟨by kernel_rfl, (fun W hw => by clear hw; go_simp)⟩) hS3 ?_
  simp only [Act.put, List.setIfInBounds_toArray, List.set_cons_zero, List.set_cons_succ]
  refine wpAnyH_done (by kernel_rfl) ?_ _
  go_wp2_with fail
  refine bodyPost_ret (results_tmp rfl _ _ _) rfl ⟨rfl, ?_⟩
  have hb2 : Below w.heap.size w w2 := ((Below.refl _ w).alloc (Nat.le_refl _) _).trans (HB.out.mono (by simp))
  exact hb2.trans (HB3.out.mono hb2.size)
end
end Go.Proofs.Ytcaclgaaaanfnaa
