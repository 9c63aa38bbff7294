/- Texts of one proof, one behind the other. -/
import Derived.Test.YtcaclgaaaanfnaaMgUnifyNone11
import Derived.Test.YtcaclgaaaanfnaaMgUnifyNone12
/- What a graph that stands says of its nodes. -/
namespace Go.Proofs.Ytcaclgaaaanfnaa
open Go.RowKit Go.Shelf
set_option maxRecDepth 100000
theorem own_mono {w : World} {base base' : Nat} {e : TypeId} {size : Nat} {v : Value} {n : Nat} {xs : List Value} (h : w.ownsRow base e size v n xs) (hb : base' ≤ base) : w.ownsRow base' e size v n xs :=
  ⟨h.1, h.2.imp id fun ⟨g, cap, cur, h1, h2, h3⟩ => ⟨g, cap, cur, h1, Nat.le_trans hb h2, h3⟩⟩
theorem has_in (w : World) (B g mb : Nat) (v : Value) (L : List Nd) (G : List Gn) (hG : GrM B w g v mb L G) (i : Nat) (hi : i < G.length) : Calls Try.prog 87 #[.pointer (some ⟨g, 0, none⟩), .int .i64 (i : Nat)] w fun e w' => e = .returned (.bool true) ∧ Below w.heap.size w w' := by
  have f1 : decide ((0 : Int) ≤ (i : Int)) = true := by simp
  have f2 : decide ((i : Int) < (G.length : Int)) = true := by simpa using hi
  have HG := Lib.hid hG
  clear hG
  go_enter Try.func87, Try.ntmps87
  go_wp2_with (go_at_call 79; refine (len_graph _ B g mb v L G (by first | exact HG.out | exact HG.out.below (Below.refl _ _).drew)).mono ?_; rintro e w' ⟨rfl, rfl⟩)
  first | exact bodyPost_ret (results_tmp rfl _ _ _) rfl ⟨rfl, Below.refl _ _⟩ | exact bodyPost_ret (results_tmp rfl _ _ _) rfl ⟨rfl, (Below.refl _ _).drew⟩
theorem has_out (w : World) (B g mb : Nat) (v : Value) (L : List Nd) (G : List Gn) (hG : GrM B w g v mb L G) (i : Int) (hi : ¬ (0 ≤ i ∧ i < G.length)) : Calls Try.prog 87 #[.pointer (some ⟨g, 0, none⟩), .int .i64 i] w fun e w' => e = .returned (.bool false) ∧ Below w.heap.size w w' := by
  have HG := Lib.hid hG
  by_cases h : 0 ≤ i
  · have f1 : decide ((0 : Int) ≤ i) = true := by simpa using h
    have f2 : decide (i < (G.length : Int)) = false := by simp; omega
    clear hG
    go_enter Try.func87, Try.ntmps87
    go_wp2_with (go_at_call 79; refine (len_graph _ B g mb v L G (by first | exact HG.out | exact HG.out.below (Below.refl _ _).drew)).mono ?_; rintro e w' ⟨rfl, rfl⟩)
    first | exact bodyPost_ret (results_tmp rfl _ _ _) rfl ⟨rfl, Below.refl _ _⟩ | exact bodyPost_ret (results_tmp rfl _ _ _) rfl ⟨rfl, (Below.refl _ _).drew⟩
  · have f1 : decide ((0 : Int) ≤ i) = false := by simpa using h
    clear hG
    go_enter Try.func87, Try.ntmps87
    go_wp2_with fail
    exact bodyPost_ret (results_tmp rfl _ _ _) rfl ⟨rfl, Below.refl _ _⟩
theorem kind_out (w : World) (B g mb : Nat) (v : Value) (L : List Nd) (G : List Gn) (hG : GrM B w g v mb L G) (i : Int) (hi : ¬ (0 ≤ i ∧ i < G.length)) : Calls Try.prog 60 #[.pointer (some ⟨g, 0, none⟩), .int .i64 i] w fun e w' => e = .returned (.int .i64 0) ∧ Below w.heap.size w w' := by
  have HG := Lib.hid hG
  clear hG
  go_enter Try.func60, Try.ntmps60
  go_wp2_with fail
  refine (has_out _ B g mb v L G (HG.out.below (Below.refl _ _)) i hi).mono ?_
  rintro e w' ⟨rfl, hb⟩
  go_wp2_with fail
  exact bodyPost_ret (results_tmp rfl _ _ _) rfl ⟨rfl, hb⟩
theorem kind_in (w : World) (B g mb : Nat) (v : Value) (L : List Nd) (G : List Gn) (hG : GrM B w g v mb L G) (i : Nat) (hi : i < G.length) : Calls Try.prog 60 #[.pointer (some ⟨g, 0, none⟩), .int .i64 (i : Nat)] w fun e w' => e = .returned (.int .i64 G[i].1) ∧ Below w.heap.size w w' := by
  have HG := Lib.hid hG
  have hl := hG.nodes.len
  obtain ⟨z, hz⟩ : ∃ z, G[i].1 = z := ⟨_, rfl⟩
  rw [hz]
  have HZ := Lib.hid hz
  clear hG hz
  go_enter Try.func60, Try.ntmps60
  go_wp2_with fail
  refine (has_in _ B g mb v L G (HG.out.below (Below.refl _ _)) i hi).mono ?_
  rintro e w' ⟨rfl, hb⟩
  have hG := HG.out.below hb
  obtain ⟨a, c, rfl, -, -⟩ := own_shape hG.row (by omega)
  have hnd := hG.nodes.at i (by omega) hi
  obtain ⟨q0, -, -, -⟩ := ndC_at L i (by omega)
  have x0 : w'.cell? ⟨a, i * 4, none⟩ = some (.int .i64 L[i].1) := by rw [hG.row.cellAt _ (by omega)]; exact q0
  rw [hnd.1, HZ.out] at x0
  have g0 : w'.cell? ⟨g, 0, none⟩ = some (.slice (some ⟨a, 0, none⟩) L.length c) := cell_of_row w' _ 0 _ _ (0, 0) hG.cell
  have hiL : i < L.length := by omega
  clear hnd q0 hG hl HG
  go_wp2_with fail
  exact bodyPost_ret (results_tmp rfl _ _ _) rfl ⟨rfl, hb⟩
theorem parts_out (w : World) (B g mb : Nat) (v : Value) (L : List Nd) (G : List Gn) (hG : GrM B w g v mb L G) (i : Int) (hi : ¬ (0 ≤ i ∧ i < G.length)) : Calls Try.prog 62 #[.pointer (some ⟨g, 0, none⟩), .int .i64 i] w fun e w' => e = .returned (.slice none 0 0) ∧ Below w.heap.size w w' := by
  have HG := Lib.hid hG
  clear hG
  go_enter Try.func62, Try.ntmps62
  go_wp2_with fail
  refine (has_out _ B g mb v L G (HG.out.below (Below.refl _ _)) i hi).mono ?_
  rintro e w' ⟨rfl, hb⟩
  go_wp2_with fail
  exact bodyPost_ret (results_tmp rfl _ _ _) rfl ⟨rfl, hb⟩
theorem parts_in (w : World) (B g mb : Nat) (v : Value) (L : List Nd) (G : List Gn) (hG : GrM B w g v mb L G) (i : Nat) (hi : i < G.length) (hP : G[i].2.2.2.length ≤ 1000000) : Calls Try.prog 62 #[.pointer (some ⟨g, 0, none⟩), .int .i64 (i : Nat)] w fun e w' => ∃ v', e = .returned v' ∧ w'.ownsRow w.heap.size 3 1 v' G[i].2.2.2.length (nums G[i].2.2.2) ∧ Below w.heap.size w w' := by
  have HG := Lib.hid hG
  have hl := hG.nodes.len
  obtain ⟨P, hPe⟩ : ∃ P, G[i].2.2.2 = P := ⟨_, rfl⟩
  rw [hPe] at hP ⊢
  have HPE := Lib.hid hPe
  clear hG hPe
  go_enter Try.func62, Try.ntmps62
  go_wp2_with fail
  refine (has_in _ B g mb v L G (HG.out.below (Below.refl _ _)) i hi).mono ?_
  rintro e w' ⟨rfl, hb⟩
  have hG := HG.out.below hb
  obtain ⟨a, c, rfl, -, -⟩ := own_shape hG.row (by omega)
  have hnd := hG.nodes.at i (by omega) hi
  obtain ⟨-, -, -, q3⟩ := ndC_at L i (by omega)
  have x3 : w'.cell? ⟨a, i * 4 + 3, none⟩ = some (slv L[i].2.2.2) := by rw [hG.row.cellAt _ (by omega)]; exact q3
  have g0 : w'.cell? ⟨g, 0, none⟩ = some (.slice (some ⟨a, 0, none⟩) L.length c) := cell_of_row w' _ 0 _ _ (0, 0) hG.cell
  have HR := Lib.hid (Rd.of_own hnd.2.2.2)
  rw [HPE.out] at HR
  obtain ⟨⟨s1, s2, s3⟩, hz⟩ : ∃ z, L[i].2.2.2 = z := ⟨_, rfl⟩
  rw [hz] at x3 HR
  dsimp only [slv] at x3 HR
  have hiL : i < L.length := by omega
  have hbs := hb.size
  clear hnd q3 hG hz hl HG
  go_wp2_with fail
  refine (clone_ints _ _ (toI P) (by rw [toI_len]; exact HR.out) (by rw [toI_len]; omega)).mono ?_
  rintro e w3 ⟨vq, rfl, ownq, hb3⟩
  rw [toI_len] at ownq
  go_wp2_with fail
  exact bodyPost_ret (results_tmp rfl _ _ _) rfl ⟨_, rfl, own_mono ownq hbs, hb.trans (hb3.mono hbs)⟩
theorem var_graph (w : World) (B g mb : Nat) (v : Value) (L : List Nd) (G : List Gn) (hG : GrM B w g v mb L G) (n : Int) (hn : (Lit.int .i64 n).wf = true) : Calls Try.prog 86 #[.pointer (some ⟨g, 0, none⟩), .int .i64 n] w fun e w' => e = .returned (.tuple #[.int .i64 ((gvar G n).getD 0 : Nat), .bool (gvar G n).isSome]) ∧ Below w.heap.size w w' := by
  obtain ⟨S, hm⟩ := hG.vars
  have g1 : w.cell? ⟨g, 1, none⟩ = some (.map (some mb)) := cell_of_row w _ 1 _ _ (0, 0) hG.cell
  have hlk := hm.look_ok intsTy n hn
  have e1 : ((gvf G n).getD (.int .i64 0)) = .int .i64 (((gvar G n).getD 0 : Nat) : Int) := by
    unfold gvf
    cases gvar G n <;> rfl
  have e2 : (gvf G n).isSome = (gvar G n).isSome := by unfold gvf; cases gvar G n <;> rfl
  rw [e1, e2] at hlk
  obtain ⟨z, hz⟩ : ∃ z : Nat, (gvar G n).getD 0 = z := ⟨_, rfl⟩
  obtain ⟨b, hb⟩ : ∃ b, (gvar G n).isSome = b := ⟨_, rfl⟩
  rw [hz, hb] at hlk ⊢
  clear hG hm hz hb e1 e2
  go_enter Try.func86, Try.ntmps86
  go_wp2_with fail
  exact bodyPost_ret (results_tmp2 rfl _ _ _) rfl ⟨rfl, Below.refl _ _⟩
theorem name_out (w : World) (B g mb : Nat) (v : Value) (L : List Nd) (G : List Gn) (hG : GrM B w g v mb L G) (i : Int) (hi : ¬ (0 ≤ i ∧ i < G.length)) : Calls Try.prog 61 #[.pointer (some ⟨g, 0, none⟩), .int .i64 i] w fun e w' => e = .returned (.tuple #[.int .i64 0, .bool false]) ∧ Below w.heap.size w w' := by
  have HG := Lib.hid hG
  clear hG
  go_enter Try.func61, Try.ntmps61
  go_wp2_with fail
  refine (kind_out _ B g mb v L G (HG.out.below (Below.refl _ _)) i hi).mono ?_
  rintro e w' ⟨rfl, hb⟩
  go_wp2_with fail
  exact bodyPost_ret (results_tmp2 rfl _ _ _) rfl ⟨rfl, hb⟩
theorem name_in (w : World) (B g mb : Nat) (v : Value) (L : List Nd) (G : List Gn) (hG : GrM B w g v mb L G) (i : Nat) (hi : i < G.length) : Calls Try.prog 61 #[.pointer (some ⟨g, 0, none⟩), .int .i64 (i : Nat)] w fun e w' => e = .returned (if G[i].1 = 1 then .tuple #[.int .i64 G[i].2.1, .bool true] else .tuple #[.int .i64 0, .bool false]) ∧ Below w.heap.size w w' := by
  have HG := Lib.hid hG
  have hl := hG.nodes.len
  obtain ⟨y, hy⟩ : ∃ y, G[i].2.1 = y := ⟨_, rfl⟩
  have hk := kind_in w B g mb v L G hG i hi
  obtain ⟨z, hz⟩ : ∃ z, G[i].1 = z := ⟨_, rfl⟩
  rw [hz] at hk ⊢
  rw [hy]
  have HY := Lib.hid hy
  have HK := Lib.hid hk
  clear hG hy hz hk
  go_enter Try.func61, Try.ntmps61
  go_wp2_with fail
  refine HK.out.mono ?_
  rintro e w' ⟨rfl, hb⟩
  have hG := HG.out.below hb
  obtain ⟨a, c, rfl, -, -⟩ := own_shape hG.row (by omega)
  have hnd := hG.nodes.at i (by omega) hi
  obtain ⟨-, q1, -, -⟩ := ndC_at L i (by omega)
  have x1 : w'.cell? ⟨a, i * 4 + 1, none⟩ = some (.int .i64 L[i].2.1) := by rw [hG.row.cellAt _ (by omega)]; exact q1
  rw [hnd.2.1, HY.out] at x1
  have g0 : w'.cell? ⟨g, 0, none⟩ = some (.slice (some ⟨a, 0, none⟩) L.length c) := cell_of_row w' _ 0 _ _ (0, 0) hG.cell
  have hiL : i < L.length := by omega
  clear hnd q1 hG hl HG
  by_cases hk : z = 1
  · subst hk
    go_wp2_with fail
    exact bodyPost_ret (results_tmp2 rfl _ _ _) rfl ⟨rfl, hb⟩
  · have f1 : (z == 1) = false := by simpa using hk
    go_wp2_with fail
    exact bodyPost_ret (results_tmp2 rfl _ _ _) rfl ⟨rfl, hb⟩
end Go.Proofs.Ytcaclgaaaanfnaa
