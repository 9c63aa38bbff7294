/- Texts of one proof, one behind the other. -/
import Derived.Test.YtbnpmeaaaecciaaGreatMgUnifyClasses8
import Derived.Test.YtbnpmeaaaecciaaGreatMgUnifyClasses9
import Derived.Test.YtbnpmeaaaecciaaGreatMgUnifyClasses10
import Derived.Test.YtbnpmeaaaecciaaGreatMgUnifyClasses5
import Derived.Test.YtbnpmeaaaecciaaGreatMgUnifyClasses1
import Derived.Test.YtbnpmeaaaecciaaGreatMgUnifyClasses3
import Derived.Deep.RegionWith
/- What a graph that stands says of its nodes. -/
namespace Go.Proofs.YtbnpmeaaaecciaaGreat
open Go.RowKit Go.Shelf
set_option maxRecDepth 100000
theorem own_mono {w : World} {base base' : Nat} {e : TypeId} {size : Nat} {v : Value} {n : Nat} {xs : List Value} (h : w.ownsRow base e size v n xs) (hb : base' ≤ base) : w.ownsRow base' e size v n xs :=
  ⟨h.1, h.2.imp id fun ⟨g, cap, cur, h1, h2, h3⟩ => ⟨g, cap, cur, h1, Nat.le_trans hb h2, h3⟩⟩
theorem has_in (w : World) (B g mb : Nat) (v : Value) (L : List Nd) (G : List Gn) (hG : GrM B w g v mb L G) (i : Nat) (hi : i < G.length) : Calls Tryz.prog 77 #[.pointer (some ⟨g, 0, none⟩), .int .i64 (i : Nat)] w fun e w' => e = .returned (.bool true) ∧ Below w.heap.size w w' := by
  have f1 : decide ((0 : Int) ≤ (i : Int)) = true := by simp
  have f2 : decide ((i : Int) < (G.length : Int)) = true := by simpa using hi
  have HG := Lib.hid hG
  clear hG
  go_enter Tryz.func77, Tryz.ntmps77
  go_wp2_with (go_at_call 54; refine (len_graph _ B g mb v L G (by first | exact HG.out | exact HG.out.below (Below.refl _ _).drew)).mono ?_; rintro e w' ⟨rfl, rfl⟩)
  first | exact bodyPost_ret (results_tmp rfl _ _ _) rfl ⟨rfl, Below.refl _ _⟩ | exact bodyPost_ret (results_tmp rfl _ _ _) rfl ⟨rfl, (Below.refl _ _).drew⟩
theorem has_out (w : World) (B g mb : Nat) (v : Value) (L : List Nd) (G : List Gn) (hG : GrM B w g v mb L G) (i : Int) (hi : ¬ (0 ≤ i ∧ i < G.length)) : Calls Tryz.prog 77 #[.pointer (some ⟨g, 0, none⟩), .int .i64 i] w fun e w' => e = .returned (.bool false) ∧ Below w.heap.size w w' := by
  have HG := Lib.hid hG
  by_cases h : 0 ≤ i
  · have f1 : decide ((0 : Int) ≤ i) = true := by simpa using h
    have f2 : decide (i < (G.length : Int)) = false := by simp; omega
    clear hG
    go_enter Tryz.func77, Tryz.ntmps77
    go_wp2_with (go_at_call 54; refine (len_graph _ B g mb v L G (by first | exact HG.out | exact HG.out.below (Below.refl _ _).drew)).mono ?_; rintro e w' ⟨rfl, rfl⟩)
    first | exact bodyPost_ret (results_tmp rfl _ _ _) rfl ⟨rfl, Below.refl _ _⟩ | exact bodyPost_ret (results_tmp rfl _ _ _) rfl ⟨rfl, (Below.refl _ _).drew⟩
  · have f1 : decide ((0 : Int) ≤ i) = false := by simpa using h
    clear hG
    go_enter Tryz.func77, Tryz.ntmps77
    go_wp2_with fail
    exact bodyPost_ret (results_tmp rfl _ _ _) rfl ⟨rfl, Below.refl _ _⟩
theorem kind_out (w : World) (B g mb : Nat) (v : Value) (L : List Nd) (G : List Gn) (hG : GrM B w g v mb L G) (i : Int) (hi : ¬ (0 ≤ i ∧ i < G.length)) : Calls Tryz.prog 55 #[.pointer (some ⟨g, 0, none⟩), .int .i64 i] w fun e w' => e = .returned (.int .i64 0) ∧ Below w.heap.size w w' := by
  have HG := Lib.hid hG
  clear hG
  go_enter Tryz.func55, Tryz.ntmps55
  go_wp2_with fail
  refine (has_out _ B g mb v L G (HG.out.below (Below.refl _ _)) i hi).mono ?_
  rintro e w' ⟨rfl, hb⟩
  go_wp2_with fail
  exact bodyPost_ret (results_tmp rfl _ _ _) rfl ⟨rfl, hb⟩
theorem kind_in (w : World) (B g mb : Nat) (v : Value) (L : List Nd) (G : List Gn) (hG : GrM B w g v mb L G) (i : Nat) (hi : i < G.length) : Calls Tryz.prog 55 #[.pointer (some ⟨g, 0, none⟩), .int .i64 (i : Nat)] w fun e w' => e = .returned (.int .i64 G[i].1) ∧ Below w.heap.size w w' := by
  have HG := Lib.hid hG
  have hl := hG.nodes.len
  obtain ⟨z, hz⟩ : ∃ z, G[i].1 = z := ⟨_, rfl⟩
  rw [hz]
  have HZ := Lib.hid hz
  clear hG hz
  go_enter Tryz.func55, Tryz.ntmps55
  go_wp2_with fail
  refine (has_in _ B g mb v L G (HG.out.below (Below.refl _ _)) i hi).mono ?_
  rintro e w' ⟨rfl, hb⟩
  have hG := HG.out.below hb
  obtain ⟨a, c, rfl, -, -⟩ := own_shape hG.row (by omega)
  have hnd := hG.nodes.at i (by omega) hi
  obtain ⟨q0, -, -, -⟩ := ndC_at L i (by omega)
  have x0 : w'.cell? ⟨a, i * 4, none⟩ = some (.int .i64 L[i].1) := by rw [hG.row.cellAt _ (by omega)]; exact q0
  rw [hnd.1, HZ.out] at x0
  have g0 : w'.cell? ⟨g, 0, none⟩ = some (.slice (some ⟨a, 0, none⟩) L.length c) := cell_of_row w' _ 0 _ _ (0, 0) hG.cell
  have hiL : i < L.length := by omega
  clear hnd q0 hG hl HG
  go_wp2_with fail
  exact bodyPost_ret (results_tmp rfl _ _ _) rfl ⟨rfl, hb⟩
theorem parts_out (w : World) (B g mb : Nat) (v : Value) (L : List Nd) (G : List Gn) (hG : GrM B w g v mb L G) (i : Int) (hi : ¬ (0 ≤ i ∧ i < G.length)) : Calls Tryz.prog 61 #[.pointer (some ⟨g, 0, none⟩), .int .i64 i] w fun e w' => e = .returned (.slice none 0 0) ∧ Below w.heap.size w w' := by
  have HG := Lib.hid hG
  clear hG
  go_enter Tryz.func61, Tryz.ntmps61
  go_wp2_with fail
  refine (has_out _ B g mb v L G (HG.out.below (Below.refl _ _)) i hi).mono ?_
  rintro e w' ⟨rfl, hb⟩
  go_wp2_with fail
  exact bodyPost_ret (results_tmp rfl _ _ _) rfl ⟨rfl, hb⟩
theorem parts_in (w : World) (B g mb : Nat) (v : Value) (L : List Nd) (G : List Gn) (hG : GrM B w g v mb L G) (i : Nat) (hi : i < G.length) (hP : G[i].2.2.2.length ≤ 1000000) : Calls Tryz.prog 61 #[.pointer (some ⟨g, 0, none⟩), .int .i64 (i : Nat)] w fun e w' => ∃ v', e = .returned v' ∧ w'.ownsRow w.heap.size 3 1 v' G[i].2.2.2.length (nums G[i].2.2.2) ∧ Below w.heap.size w w' := by
  have HG := Lib.hid hG
  have hl := hG.nodes.len
  obtain ⟨P, hPe⟩ : ∃ P, G[i].2.2.2 = P := ⟨_, rfl⟩
  rw [hPe] at hP ⊢
  have HPE := Lib.hid hPe
  clear hG hPe
  go_enter Tryz.func61, Tryz.ntmps61
  go_wp2_with fail
  refine (has_in _ B g mb v L G (HG.out.below (Below.refl _ _)) i hi).mono ?_
  rintro e w' ⟨rfl, hb⟩
  have hG := HG.out.below hb
  obtain ⟨a, c, rfl, -, -⟩ := own_shape hG.row (by omega)
  have hnd := hG.nodes.at i (by omega) hi
  obtain ⟨-, -, -, q3⟩ := ndC_at L i (by omega)
  have x3 : w'.cell? ⟨a, i * 4 + 3, none⟩ = some (slv L[i].2.2.2) := by rw [hG.row.cellAt _ (by omega)]; exact q3
  have g0 : w'.cell? ⟨g, 0, none⟩ = some (.slice (some ⟨a, 0, none⟩) L.length c) := cell_of_row w' _ 0 _ _ (0, 0) hG.cell
  have HR := Lib.hid (Rd.of_own hnd.2.2.2)
  rw [HPE.out] at HR
  obtain ⟨⟨s1, s2, s3⟩, hz⟩ : ∃ z, L[i].2.2.2 = z := ⟨_, rfl⟩
  rw [hz] at x3 HR
  dsimp only [slv] at x3 HR
  have hiL : i < L.length := by omega
  have hbs := hb.size
  clear hnd q3 hG hz hl HG
  go_wp2_with fail
  refine (clone_ints _ _ (toI P) (by rw [toI_len]; exact HR.out) (by rw [toI_len]; omega)).mono ?_
  rintro e w3 ⟨vq, rfl, ownq, hb3⟩
  rw [toI_len] at ownq
  go_wp2_with fail
  exact bodyPost_ret (results_tmp rfl _ _ _) rfl ⟨_, rfl, own_mono ownq hbs, hb.trans (hb3.mono hbs)⟩
theorem var_graph (w : World) (B g mb : Nat) (v : Value) (L : List Nd) (G : List Gn) (hG : GrM B w g v mb L G) (n : Int) (hn : (Lit.int .i64 n).wf = true) : Calls Tryz.prog 67 #[.pointer (some ⟨g, 0, none⟩), .int .i64 n] w fun e w' => e = .returned (.tuple #[.int .i64 ((gvar G n).getD 0 : Nat), .bool (gvar G n).isSome]) ∧ Below w.heap.size w w' := by
  obtain ⟨S, hm⟩ := hG.vars
  have g1 : w.cell? ⟨g, 1, none⟩ = some (.map (some mb)) := cell_of_row w _ 1 _ _ (0, 0) hG.cell
  have hlk := hm.look_ok intsTy n hn
  have e1 : ((gvf G n).getD (.int .i64 0)) = .int .i64 (((gvar G n).getD 0 : Nat) : Int) := by
    unfold gvf
    cases gvar G n <;> rfl
  have e2 : (gvf G n).isSome = (gvar G n).isSome := by unfold gvf; cases gvar G n <;> rfl
  rw [e1, e2] at hlk
  obtain ⟨z, hz⟩ : ∃ z : Nat, (gvar G n).getD 0 = z := ⟨_, rfl⟩
  obtain ⟨b, hb⟩ : ∃ b, (gvar G n).isSome = b := ⟨_, rfl⟩
  rw [hz, hb] at hlk ⊢
  clear hG hm hz hb e1 e2
  go_enter Tryz.func67, Tryz.ntmps67
  go_wp2_with fail
  exact bodyPost_ret (results_tmp2 rfl _ _ _) rfl ⟨rfl, Below.refl _ _⟩
theorem name_out (w : World) (B g mb : Nat) (v : Value) (L : List Nd) (G : List Gn) (hG : GrM B w g v mb L G) (i : Int) (hi : ¬ (0 ≤ i ∧ i < G.length)) : Calls Tryz.prog 43 #[.pointer (some ⟨g, 0, none⟩), .int .i64 i] w fun e w' => e = .returned (.tuple #[.int .i64 0, .bool false]) ∧ Below w.heap.size w w' := by
  have HG := Lib.hid hG
  clear hG
  go_enter Tryz.func43, Tryz.ntmps43
  go_wp2_with fail
  refine (kind_out _ B g mb v L G (HG.out.below (Below.refl _ _)) i hi).mono ?_
  rintro e w' ⟨rfl, hb⟩
  go_wp2_with fail
  exact bodyPost_ret (results_tmp2 rfl _ _ _) rfl ⟨rfl, hb⟩
theorem name_in (w : World) (B g mb : Nat) (v : Value) (L : List Nd) (G : List Gn) (hG : GrM B w g v mb L G) (i : Nat) (hi : i < G.length) : Calls Tryz.prog 43 #[.pointer (some ⟨g, 0, none⟩), .int .i64 (i : Nat)] w fun e w' => e = .returned (if G[i].1 = 1 then .tuple #[.int .i64 G[i].2.1, .bool true] else .tuple #[.int .i64 0, .bool false]) ∧ Below w.heap.size w w' := by
  have HG := Lib.hid hG
  have hl := hG.nodes.len
  obtain ⟨y, hy⟩ : ∃ y, G[i].2.1 = y := ⟨_, rfl⟩
  have hk := kind_in w B g mb v L G hG i hi
  obtain ⟨z, hz⟩ : ∃ z, G[i].1 = z := ⟨_, rfl⟩
  rw [hz] at hk ⊢
  rw [hy]
  have HY := Lib.hid hy
  have HK := Lib.hid hk
  clear hG hy hz hk
  go_enter Tryz.func43, Tryz.ntmps43
  go_wp2_with fail
  refine HK.out.mono ?_
  rintro e w' ⟨rfl, hb⟩
  have hG := HG.out.below hb
  obtain ⟨a, c, rfl, -, -⟩ := own_shape hG.row (by omega)
  have hnd := hG.nodes.at i (by omega) hi
  obtain ⟨-, q1, -, -⟩ := ndC_at L i (by omega)
  have x1 : w'.cell? ⟨a, i * 4 + 1, none⟩ = some (.int .i64 L[i].2.1) := by rw [hG.row.cellAt _ (by omega)]; exact q1
  rw [hnd.2.1, HY.out] at x1
  have g0 : w'.cell? ⟨g, 0, none⟩ = some (.slice (some ⟨a, 0, none⟩) L.length c) := cell_of_row w' _ 0 _ _ (0, 0) hG.cell
  have hiL : i < L.length := by omega
  clear hnd q1 hG hl HG
  by_cases hk : z = 1
  · subst hk
    go_wp2_with fail
    exact bodyPost_ret (results_tmp2 rfl _ _ _) rfl ⟨rfl, hb⟩
  · have f1 : (z == 1) = false := by simpa using hk
    go_wp2_with fail
    exact bodyPost_ret (results_tmp2 rfl _ _ _) rfl ⟨rfl, hb⟩
end Go.Proofs.YtbnpmeaaaecciaaGreat
/- (*Graph).Add. -/
namespace Go.Proofs.YtbnpmeaaaecciaaGreat
open Go.RowKit Go.Shelf
set_option maxRecDepth 100000
theorem wf_pre {F : Fo} (h : F.wf) : ∀ x ∈ F.pre, (Lit.int .i64 x.2.1).wf = true := by
  induction F with
  | nil => intro x hx; simp [Fo.pre] at hx
  | cons k n u ps r i1 i2 =>
    intro x hx
    simp only [Fo.pre, List.mem_cons, List.mem_append] at hx
    rcases hx with rfl | hx | hx
    · exact h.1
    · exact i1 h.2.1 x hx
    · exact i2 h.2.2 x hx
theorem add_wrong (w : World) (g : Nat) (BT : Nat) (hBT : BT ≤ w.heap.size) (k n : Int) (u : Sl) (ps : Fo) (hps : TyV BT w ps (slv u)) (hs : ps.size < 1000000) (hr : allAlone (Fo.cons k n u ps .nil).pre = false) :
    Calls Tryz.prog 31 #[.pointer (some ⟨g, 0, none⟩), tyVal k n (slv u)] w fun e w' => e = .returned (.tuple #[.int .i64 0, .int .i64 1]) ∧ Below w.heap.size w w' := by
  obtain ⟨u1, u2, u3⟩ := u
  obtain ⟨w1, hw1⟩ : ∃ w1, (w.alloc (.cells #[.pointer (some ⟨g, 0, none⟩)] 59)).alloc (.cells #[.int .i64 k, .int .i64 n, .slice u1 u2 u3] 30) = w1 := ⟨_, rfl⟩
  have hb1 : Below w.heap.size w w1 := by rw [← hw1]; exact ((Below.refl _ _).alloc (Nat.le_refl _) _).alloc (by simp) _
  have hs1 : w1.heap.size = w.heap.size + 2 := by rw [← hw1]; simp
  have hR := right_any w1 BT k n (u1, u2, u3) ps (by omega) (hps.below (hb1.mono hBT)) hs
  rw [hr] at hR
  have HR := Lib.hid hR
  dsimp only [tyVal, slv]
  have a0 : w1.heap[w.heap.size]? = some (.cells #[.pointer (some ⟨g, 0, none⟩)] 59) := by rw [← hw1]; exact (Below.heap_alloc _ _ _ (by simp)).trans (heap_alloc_new _ _)
  have hB1 : w1.heap[w.heap.size + 1]? = some (.cells #[.int .i64 k, .int .i64 n, .slice u1 u2 u3] 30) := by rw [← hw1]; have h := heap_alloc_new (w.alloc (.cells #[.pointer (some ⟨g, 0, none⟩)] 59)) (.cells #[.int .i64 k, .int .i64 n, .slice u1 u2 u3] 30); simp only [World.size_alloc] at h; exact h
  have b0 : w1.cell? ⟨w.heap.size, 0, none⟩ = some (.pointer (some ⟨g, 0, none⟩)) := cell_of_row w1 _ 0 _ _ (0, 0) a0
  have c0 : w1.cell? ⟨w.heap.size + 1, 0, none⟩ = some (.int .i64 k) := cell_of_row w1 _ 0 _ _ (0, 0) hB1
  have c1 : w1.cell? ⟨w.heap.size + 1, 1, none⟩ = some (.int .i64 n) := cell_of_row w1 _ 1 _ _ (0, 0) hB1
  have c2 : w1.cell? ⟨w.heap.size + 1, 2, none⟩ = some (.slice u1 u2 u3) := cell_of_row w1 _ 2 _ _ (0, 0) hB1
  have HB1 := Lib.hid hb1
  clear hps hR hr hB1 a0 hb1
  go_enter Tryz.func31, Tryz.ntmps31
  go_wp2_with fail
  refine HR.out.mono ?_
  rintro e w2 ⟨rfl, hb2⟩
  go_wp2_with fail
  exact bodyPost_ret (results_tmp2 rfl _ _ _) rfl ⟨rfl, HB1.out.trans (hb2.mono (by omega))⟩
set_option maxHeartbeats 4000000 in
theorem add_graph (w : World) (B g mb : Nat) (v : Value) (L : List Nd) (G : List Gn) (hG : GrM B w g v mb L G) (hB : B ≤ w.heap.size) (hGI : GI G) (BT : Nat) (hBT : BT ≤ w.heap.size) (k n : Int) (u : Sl) (ps : Fo) (hps : TyV BT w ps (slv u)) (hwf : (Fo.cons k n u ps .nil).wf)
    (hs : G.length + (1 + ps.size) ≤ 500000) (hr : allAlone (Fo.cons k n u ps .nil).pre = true) :
    Calls Tryz.prog 31 #[.pointer (some ⟨g, 0, none⟩), tyVal k n (slv u)] w fun e w' => ∃ v' E, e = .returned (.tuple #[.int .i64 ((gadd1 G k n ps).2 : Nat), .int .i64 0]) ∧ GrM B w' g v' mb (L ++ E) (gadd1 G k n ps).1 ∧ Chg w w' g mb v v' ∧ ∀ x ∈ E, ∀ b, (slv x.2.2.2).ownBlock = some b → w.heap.size ≤ b := by
  obtain ⟨u1, u2, u3⟩ := u
  obtain ⟨w1, hw1⟩ : ∃ w1, (w.alloc (.cells #[.pointer (some ⟨g, 0, none⟩)] 59)).alloc (.cells #[.int .i64 k, .int .i64 n, .slice u1 u2 u3] 30) = w1 := ⟨_, rfl⟩
  have hb1 : Below w.heap.size w w1 := by rw [← hw1]; exact ((Below.refl _ _).alloc (Nat.le_refl _) _).alloc (by simp) _
  have hs1 : w1.heap.size = w.heap.size + 2 := by rw [← hw1]; simp
  have hR := right_any w1 BT k n (u1, u2, u3) ps (by omega) (hps.below (hb1.mono hBT)) (by omega)
  rw [hr] at hR
  have HR := Lib.hid hR
  obtain ⟨F, hF⟩ : ∃ F, Fo.cons k n (u1, u2, u3) ps .nil = F := ⟨_, rfl⟩
  have hlo : LenOk F := by rw [← hF]; exact ⟨TyV.len (u := (u1, u2, u3)) hps, (TyV.list hps).lenOk, trivial⟩
  have hvo : Vok F := vok_of (by rw [← hF]; exact hr) hlo
  have hFs : F.size = 1 + ps.size := by rw [← hF]; simp [Fo.size]
  have hfin : (grO F).reverse.foldl gstep (G, []) = ((gadd1 G k n ps).1, [(gadd1 G k n ps).2]) := by
    rw [gfold F G [] hlo, ← hF, gadd_cons, gadd_nil]; rfl
  dsimp only [tyVal, slv]
  have a0 : w1.heap[w.heap.size]? = some (.cells #[.pointer (some ⟨g, 0, none⟩)] 59) := by rw [← hw1]; exact (Below.heap_alloc _ _ _ (by simp)).trans (heap_alloc_new _ _)
  have hB1 : w1.heap[w.heap.size + 1]? = some (.cells #[.int .i64 k, .int .i64 n, .slice u1 u2 u3] 30) := by rw [← hw1]; have h := heap_alloc_new (w.alloc (.cells #[.pointer (some ⟨g, 0, none⟩)] 59)) (.cells #[.int .i64 k, .int .i64 n, .slice u1 u2 u3] 30); simp only [World.size_alloc] at h; exact h
  have b0 : w1.cell? ⟨w.heap.size, 0, none⟩ = some (.pointer (some ⟨g, 0, none⟩)) := cell_of_row w1 _ 0 _ _ (0, 0) a0
  have c0 : w1.cell? ⟨w.heap.size + 1, 0, none⟩ = some (.int .i64 k) := cell_of_row w1 _ 0 _ _ (0, 0) hB1
  have c1 : w1.cell? ⟨w.heap.size + 1, 1, none⟩ = some (.int .i64 n) := cell_of_row w1 _ 1 _ _ (0, 0) hB1
  have c2 : w1.cell? ⟨w.heap.size + 1, 2, none⟩ = some (.slice u1 u2 u3) := cell_of_row w1 _ 2 _ _ (0, 0) hB1
  have HB1 := Lib.hid hb1
  have HX1 := Lib.hid hB1
  have HA0 := Lib.hid a0
  have HG := Lib.hid hG
  have HPS := Lib.hid hps
  have HWF := Lib.hid (show F.wf by rw [← hF]; exact hwf)
  have HGI := Lib.hid hGI
  have HF := Lib.hid hF
  have HFI := Lib.hid hfin
  have HLV := Lib.hid (And.intro hlo hvo)
  have HSZ := Lib.hid (And.intro hs (And.intro hFs (And.intro hB hBT)))
  clear hps hR hr hB1 a0 hb1 hG hwf hGI hF hfin hlo hvo hs hFs
  go_enter Tryz.func31, Tryz.ntmps31
  go_wp2_with fail
  refine HR.out.mono ?_
  rintro e w2 ⟨rfl, hb2⟩
  have y0 : w2.cell? ⟨w.heap.size + 1, 0, none⟩ = some (.int .i64 k) := (hb2.cell (p := ⟨w.heap.size + 1, 0, none⟩) (by simp only; omega)).trans c0
  have y1 : w2.cell? ⟨w.heap.size + 1, 1, none⟩ = some (.int .i64 n) := (hb2.cell (p := ⟨w.heap.size + 1, 1, none⟩) (by simp only; omega)).trans c1
  have y2 : w2.cell? ⟨w.heap.size + 1, 2, none⟩ = some (.slice u1 u2 u3) := (hb2.cell (p := ⟨w.heap.size + 1, 2, none⟩) (by simp only; omega)).trans c2
  have x0 : w2.cell? ⟨w.heap.size, 0, none⟩ = some (.pointer (some ⟨g, 0, none⟩)) := (hb2.cell (p := ⟨w.heap.size, 0, none⟩) (by simp only; omega)).trans b0
  have hz2 := hb2.size
  obtain ⟨w3, hw3⟩ : ∃ w3, w2.alloc (.cells #[.slice none 0 0] 41) = w3 := ⟨_, rfl⟩
  have hb3 : Below w2.heap.size w2 w3 := by rw [← hw3]; exact (Below.refl _ _).alloc (Nat.le_refl _) _
  have hs3 : w3.heap.size = w2.heap.size + 1 := by rw [← hw3]; simp
  have hT3 : w3.heap[w2.heap.size]? = some (.cells #[.slice none 0 0] 41) := by rw [← hw3]; exact heap_alloc_new _ _
  have q0 : w3.cell? ⟨w.heap.size + 1, 0, none⟩ = some (.int .i64 k) := (hb3.cell (p := ⟨w.heap.size + 1, 0, none⟩) (by simp only; omega)).trans y0
  have q1 : w3.cell? ⟨w.heap.size + 1, 1, none⟩ = some (.int .i64 n) := (hb3.cell (p := ⟨w.heap.size + 1, 1, none⟩) (by simp only; omega)).trans y1
  have q2 : w3.cell? ⟨w.heap.size + 1, 2, none⟩ = some (.slice u1 u2 u3) := (hb3.cell (p := ⟨w.heap.size + 1, 2, none⟩) (by simp only; omega)).trans y2
  have hG := HG.out
  have hb0 : Below w.heap.size w w3 := HB1.out.trans ((hb2.trans (hb3.mono hz2)).mono (by omega))
  have hG3 : GrM B w3 g v mb L G := hG.below hb0
  have hgl := hG.lt
  have hvo : ∀ b, v.ownBlock = some b → b < w.heap.size := fun b hb => (hG.row.lt b hb).2
  obtain ⟨hs, hFs, -, -⟩ := HSZ.out
  have hg3 : w3.heap[w.heap.size]? = some (.cells #[.pointer (some ⟨g, 0, none⟩)] 59) := (hb3.block _ (by omega)).trans ((hb2.block _ (by omega)).trans HA0.out)
  have hFu := HF.out
  have hadd : ∀ (M : Nat) (pre : List Tr) (x : Tr) (W : World), w3.heap.size ≤ M → M ≤ W.heap.size → AddI w3 B g mb w2.heap.size v L G M pre W → Below B w3 W → (∃ r, pre ++ x :: r = (grO F).reverse) →
      Calls Tryz.prog 52 (#[trV x] ++ #[.pointer (some ⟨w2.heap.size, 0, none⟩), .pointer (some ⟨w.heap.size, 0, none⟩)]) W fun e W' => (∃ v, e = .returned v) ∧ AddI w3 B g mb w2.heap.size v L G M (pre ++ [x]) W' ∧ Bt3 B w3.heap.size M W W' := by
    rintro M pre x W hM hMW hI hBW ⟨r, hr⟩
    have hlen : pre.length ≤ F.size := by
      have h := congrArg List.length hr
      rw [List.length_append, List.length_reverse, grO_size, List.length_cons] at h
      omega
    have hfl := fold_len pre (G, [])
    refine add1_any w3 B g mb w2.heap.size w.heap.size v L G hg3 ⟨by omega, by omega, by omega, fun e => by have := hvo _ e; omega⟩ (by omega) (by omega) ⟨by omega, by omega⟩ ⟨by omega, by omega⟩ M pre x W hM hMW hI (by omega) F.size
      (visit_ok F G [] pre x r HGI.out HLV.out.2 HLV.out.1 (fun p hp => by cases hp) hr) (by omega) (wf_pre HWF.out x (grO_pre F x ?_)) ?_ ?_
    · have hx : x ∈ (grO F).reverse := by rw [← hr]; simp
      exact List.mem_reverse.1 hx
    · have := hfl.1; dsimp only at this; omega
    · have := hfl.2; dsimp only [List.length_nil] at this; omega
  have hcall := each_graph w3 B (by omega) 52 #[.pointer (some ⟨w2.heap.size, 0, none⟩), .pointer (some ⟨w.heap.size, 0, none⟩)] (enters_of Tryz.func52 (by kernel_rfl) rfl)
    BT (by omega) k n (u1, u2, u3) ps (HPS.out.below (hb0.mono hBT)) (by omega) (AddI w3 B g mb w2.heap.size v L G)
    (fun M pre W W' hM h hi => AddI.its (by omega) hM h hi)
    (fun W hW => ⟨v, .slice none 0 0, [], by rw [List.append_nil]; exact hG3.below hW, (hW.block _ (by omega)).trans hT3, World.ownsRow_nil _ _ _ _, (fun x hx b hb e => by cases e), (fun b hb => .inl (by have := hvo b hb; omega)), (fun x hx => by cases hx), ⟨hW.os, hW.tape, hW.output, hW.size, fun b hb _ _ _ _ => hW.block b hb, .inl rfl⟩⟩)
    (by rw [hFu]; exact hadd)
  rw [hFu] at hcall
  dsimp only [tyVal, slv] at hcall
  have HC := Lib.hid hcall
  have HB0 := Lib.hid hb0
  have HT3 := Lib.hid hT3
  clear b0 c0 c1 c2 hb2 hb3 hT3 y0 y1 y2 x0 hcall hadd hG hG3 hg3 hs hFs hFu
  go_wp2_with fail
  with_reducible refine HC.out.mono ?_
  rintro e w4 ⟨⟨ve, rfl⟩, ⟨M, hM1, hM2, hI⟩, hb4⟩
  unfold AddI at hI
  rw [HFI.out] at hI
  obtain ⟨v', mv, E, hG4, htb4, hmv, hno, hvb, hE, hS⟩ := hI
  obtain ⟨i, hi⟩ : ∃ i : Nat, (gadd1 G k n ps).2 = i := ⟨_, rfl⟩
  rw [hi] at hmv
  have HI := Lib.hid hi
  obtain ⟨a, c, rfl, -, -⟩ := own_shape hmv (by simp)
  have m0 : w4.cell? ⟨a, 0, none⟩ = some (.int .i64 (i : Nat)) := by rw [hmv.cellAt 0 (by simp)]; rfl
  have t0 : w4.cell? ⟨w2.heap.size, 0, none⟩ = some (.slice (some ⟨a, 0, none⟩) 1 c) := cell_of_row w4 _ 0 _ _ (0, 0) htb4
  have hchg : Chg w w4 g mb v v' := ⟨hS.os.trans HB0.out.os, hS.tape.trans HB0.out.tape, hS.output.trans HB0.out.output, by have := hS.size; omega, fun b hb h1 h2 h3 => (hS.block b (by omega) h1 h2 (by omega) h3).trans (HB0.out.block b hb), hS.at_.imp id fun ⟨b, e, hb⟩ => ⟨b, e, by omega⟩⟩
  have HR4 := Lib.hid (And.intro hG4 (And.intro hchg (fun x hx b hb => Nat.le_trans (show w.heap.size ≤ w3.heap.size by omega) (hE x hx b hb) : ∀ x ∈ E, ∀ b, (slv x.2.2.2).ownBlock = some b → w.heap.size ≤ b)))
  clear hG4 htb4 hmv hno hvb hE hS hchg hb4 hi
  go_wp2_with fail
  obtain ⟨r1, r2, r3⟩ := HR4.out
  exact bodyPost_ret (results_tmp2 rfl _ _ _) rfl ⟨v', E, by rw [HI.out]; rfl, r1, r2, r3⟩
end Go.Proofs.YtbnpmeaaaecciaaGreat
/- A region that copies by appends: 'append(append([]T{}, l..), x)' in any order. Nothing here speaks of the program. -/
namespace Go.Proofs.YtbnpmeaaaecciaaGreat
open Go.RowKit
theorem eval_put_ne {a : Act} {d t : Nat} (v : Value) (h : d ≠ t) : (a.put (some d) v).eval (.tmp t) = a.eval (.tmp t) := by
  simp only [Act.put, Act.eval, Array.getD_eq_getD_getElem?]
  rw [Array.getElem?_setIfInBounds_ne h]
theorem eval_put_same {a : Act} {d : Nat} (v : Value) (h : d < a.tmps.size) : (a.put (some d) v).eval (.tmp d) = v := by
  simp [Act.put, Act.eval, h]
theorem put_comm (a : Act) {d d' : Nat} (h : d ≠ d') (v v' : Value) : (a.put (some d) v).put (some d') v' = (a.put (some d') v').put (some d) v := by
  simp only [Act.put]
  rw [Array.setIfInBounds_comm _ _ h]
theorem put_size (a : Act) (d : Option Tmp) (v : Value) : (a.put d v).tmps.size = a.tmps.size := by
  cases d <;> simp [Act.put]
theorem wanted_none {o : Oper} (h : o.guard = none) (y : Nat → Option Bool) : Region.wanted o y = true := by simp [Region.wanted, h]
section
variable {P : Program} {ops : Array Oper} {Q : Exit → Act → World → Prop} {md : Region.Mode}
/-- An append, carried out. -/
theorem exec_append {o : Oper} {a : Act} {s x : Operand} {t : TypeId} {vs vx v' : Value} {w w' : World} (ho : o.op = .call { callee := .builtin .append, args := #[s, x], argTypes := #[t, t] }) (hs : a.eval s = vs) (hx : a.eval x = vx)
    (hrun : (Builtin.append_ #[t, t] o.type #[vs, vx]).run P w = .ok v' w') : (execOp a.eval o).run P w = .ok (.value v') w' := by
  unfold execOp
  simp only [ho, resolve, invoke, builtin, Sem.run_bind, Sem.run_pure, Result.andThen_ok, List.map_toArray, List.map_cons, List.map_nil, hs, hx, hrun]
/-- Two rows with nothing between: a copy, and one more behind. -/
theorem any_copy {W0 : World} {i0 i1 i2 i3 : Nat} {o0 o1 o2 o3 : Oper} {d0 d1 d2 d3 ts : Nat} {fuel : Nat} {listed : Array Bool} {a : Act} {w : World} {t e : TypeId} {ti : TypeInfo} {z : Value} {size bytes : Nat}
    (g0 : ops[i0]? = some o0) (g1 : ops[i1]? = some o1) (g2 : ops[i2]? = some o2) (g3 : ops[i3]? = some o3)
    (e0 : o0.dst = some d0) (e1 : o1.dst = some d1) (e2 : o2.dst = some d2) (e3 : o3.dst = some d3)
    (n0 : o0.guard = none) (n1 : o1.guard = none) (n2 : o2.guard = none) (n3 : o3.guard = none)
    (ne : i0 ≠ i1 ∧ i0 ≠ i2 ∧ i1 ≠ i2) (de : d0 ≠ d1 ∧ d0 ≠ d2 ∧ d1 ≠ d2 ∧ d0 ≠ ts ∧ d1 ≠ ts ∧ d2 ≠ ts) (hsz : d0 < a.tmps.size ∧ d1 < a.tmps.size ∧ d2 < a.tmps.size)
    (r0 : Region.ready md ops listed = [i0, i2]) (r1 : Region.ready md ops (listed.setIfInBounds i0 true) = [i1, i2]) (r2 : Region.ready md ops (listed.setIfInBounds i2 true) = [i0])
    (r3 : Region.ready md ops ((listed.setIfInBounds i0 true).setIfInBounds i1 true) = [i2]) (r4 : Region.ready md ops ((listed.setIfInBounds i0 true).setIfInBounds i2 true) = [i1])
    (r5 : Region.ready md ops (((listed.setIfInBounds i0 true).setIfInBounds i1 true).setIfInBounds i2 true) = [i3])
    (ht : P.underlying t = some (.slice e)) (hi : P.info? e = some ti) (hz : ti.zero = some z) (hs : ti.size = size) (hb : ti.bytes = bytes) (hzs : z.cells.size = size) (hpos : 0 < size)
    (x0 : ∀ (ev : Operand → Value) (w : World), (execOp ev o0).run P w = .ok (.value (.slice (some ⟨w.heap.size, 0, none⟩) 0 0)) (w.alloc (.cells #[] e)))
    (new : List Value) (hnew : new.length = 1 * size) (hno : ∀ u ∈ new, u.oneCell' = true)
    (x2 : ∀ (a' : Act), (∀ q, q ≠ d0 → q ≠ d1 → a'.eval (.tmp q) = a.eval (.tmp q)) → ∀ w : World, (execOp a'.eval o2).run P w = .ok (.value (.slice (some ⟨w.heap.size, 0, none⟩) 1 1)) (w.alloc (.cells new.toArray e)))
    (x1 : o1.op = .call { callee := .builtin .append, args := #[.tmp d0, .tmp ts], argTypes := #[t, t] }) (y1 : o1.type = t)
    (x3 : o3.op = .call { callee := .builtin .append, args := #[.tmp d1, .tmp d2], argTypes := #[t, t] }) (y3 : o3.type = t)
    {vs : Value} {n : Nat} {xs : List Value} (hev : a.eval (.tmp ts) = vs) (hR : Rd w size vs n xs) (hxo : ∀ u ∈ xs, u.oneCell' = true) (hn : n + 1 ≤ maxLen) (hby : (n + 1) * bytes ≤ 140737488355328)
    (hS : LS W0 w)
    (hk : ∀ v0 v1 v2 v3 w', LS W0 w' → Below w.heap.size w w' → w'.ownsRow w.heap.size e size v3 (n + 1) (xs ++ new) →
      wpAnyH P md ops Q (LS W0) fuel ((((listed.setIfInBounds i0 true).setIfInBounds i1 true).setIfInBounds i2 true).setIfInBounds i3 true) ((((a.put (some d0) v0).put (some d1) v1).put (some d2) v2).put (some d3) v3) w') :
    wpAnyH P md ops Q (LS W0) (fuel + 4) listed a w := by
  obtain ⟨ne1, ne2, ne3⟩ := ne
  obtain ⟨de1, de2, de3, de4, de5, de6⟩ := de
  obtain ⟨s0, s1, s2⟩ := hsz
  have hw0 := hS.size
  have lb : ∀ W, Below w.heap.size w W → LS W0 W := fun W h => Below.trans hS (h.mono hw0)
  -- the end: both rows stand
  have fin : ∀ (v0 v1 v2 : Value) (W : World), Below w.heap.size w W → W.ownsRow w.heap.size e size v1 n xs → Rd W size v2 1 new →
      wpAnyH P md ops Q (LS W0) (fuel + 1) (((listed.setIfInBounds i0 true).setIfInBounds i1 true).setIfInBounds i2 true) (((a.put (some d0) v0).put (some d1) v1).put (some d2) v2) W := by
    intro v0 v1 v2 W hB hO hX
    obtain ⟨v3, w3, hr3, ho3, hg3, -⟩ := run_append_rd (P := P) W w.heap.size t t e ti z size bytes ht hi hz hs hb hzs hpos v1 n xs hO v2 1 new hX hno hn hby hB.size
    have hb3 : Below w.heap.size w w3 := hB.grown hg3 hB.size (fun b h => (hO.lt b h).1)
    refine wpAnyH_all r5 (by simp) fun q hq => ?_
    obtain rfl : q = i3 := by simpa using hq
    refine ops_val g3 e3 (wanted_none n3 _) (exec_append x3 ?_ ?_ (by rw [y3]; exact hr3)) (lb _ hb3) (hk v0 v1 v2 v3 w3 (lb _ hb3) hb3 ho3)
    · rw [eval_put_ne _ (Ne.symm de3), eval_put_same _ (by rw [put_size]; exact s1)]
    · rw [eval_put_same _ (by rw [put_size, put_size]; exact s2)]
  have copy : ∀ (W : World), Below w.heap.size w W → ∀ v0, W.ownsRow w.heap.size e size v0 0 [] → ∃ v1 w1, (Builtin.append_ #[t, t] t #[v0, vs]).run P W = .ok v1 w1 ∧ w1.ownsRow w.heap.size e size v1 n xs ∧ W.grownBy w1 v0.ownBlock ∧ Below w.heap.size w w1 := by
    intro W hB v0 hO
    obtain ⟨v1, w1, h1, h2, h3, -⟩ := run_append_rd (P := P) W w.heap.size t t e ti z size bytes ht hi hz hs hb hzs hpos v0 0 [] hO vs n xs (hR.below hB) hxo (by omega) (by rw [Nat.zero_add]; exact Nat.le_trans (Nat.mul_le_mul_right _ (Nat.le_succ n)) hby) hB.size
    rw [Nat.zero_add, List.nil_append] at h2
    exact ⟨v1, w1, h1, h2, h3, hB.grown h3 hB.size (fun b h => (hO.lt b h).1)⟩
  have newR : ∀ W : World, Rd (W.alloc (.cells new.toArray e)) size (.slice (some ⟨W.heap.size, 0, none⟩) 1 1) 1 new := fun W => rd_new W new e size 1 hnew (by unfold maxLen; omega)
  have al : ∀ (W : World) o, Below w.heap.size w W → Below w.heap.size w (W.alloc o) := fun W o h => h.alloc h.size o
  refine wpAnyH_all r0 (by simp) fun q hq => ?_
  rcases (by simpa using hq : q = i0 ∨ q = i2) with rfl | rfl
  · have hO := own_none_yet w w.heap.size (Nat.le_refl _) e size
    have hB1 := al w (.cells #[] e) (Below.refl _ _)
    refine ops_val g0 e0 (wanted_none n0 _) (x0 _ _) (lb _ hB1) ?_
    refine wpAnyH_all r1 (by simp) fun q hq => ?_
    rcases (by simpa using hq : q = i1 ∨ q = i2) with rfl | rfl
    · obtain ⟨v1, w1, h1, h2, h3, h4⟩ := copy _ hB1 _ hO
      refine ops_val g1 e1 (wanted_none n1 _) (exec_append x1 (eval_put_same _ s0) ((eval_put_ne _ de4).trans hev) (by rw [y1]; exact h1)) (lb _ h4) ?_
      refine wpAnyH_all r3 (by simp) fun q hq => ?_
      obtain rfl : q = i2 := by simpa using hq
      refine ops_val g2 e2 (wanted_none n2 _) (x2 _ (fun q h0 h1 => by rw [eval_put_ne _ (Ne.symm h1), eval_put_ne _ (Ne.symm h0)]) _) (lb _ (al _ _ h4)) ?_
      exact fin _ _ _ _ (al _ _ h4) (h2.alloc _) (newR w1)
    · refine ops_val g2 e2 (wanted_none n2 _) (x2 _ (fun q h0 h1 => by rw [eval_put_ne _ (Ne.symm h0)]) _) (lb _ (al _ _ hB1)) ?_
      obtain ⟨v1, w1, h1, h2, h3, h4⟩ := copy _ (al _ (.cells new.toArray e) hB1) _ (hO.alloc _)
      refine wpAnyH_all r4 (by simp) fun q hq => ?_
      obtain rfl : q = i1 := by simpa using hq
      refine ops_val g1 e1 (wanted_none n1 _) (exec_append x1 ((eval_put_ne _ (Ne.symm de2)).trans (eval_put_same _ s0)) ((eval_put_ne _ de6).trans ((eval_put_ne _ de4).trans hev)) (by rw [y1]; exact h1)) (lb _ h4) ?_
      rw [Array.setIfInBounds_comm _ _ (Ne.symm ne3), put_comm _ (Ne.symm de3)]
      exact fin _ _ _ _ h4 h2 ((newR _).far (by simp) h3 (by simp [Value.ownBlock]))
  · have hB1 := al w (.cells new.toArray e) (Below.refl _ _)
    refine ops_val g2 e2 (wanted_none n2 _) (x2 _ (fun q _ _ => rfl) _) (lb _ hB1) ?_
    refine wpAnyH_all r2 (by simp) fun q hq => ?_
    obtain rfl : q = i0 := by simpa using hq
    have hO := own_none_yet (w.alloc (.cells new.toArray e)) w.heap.size (by simp) e size
    refine ops_val g0 e0 (wanted_none n0 _) (x0 _ _) (lb _ (al _ _ hB1)) ?_
    obtain ⟨v1, w1, h1, h2, h3, h4⟩ := copy _ (al _ (.cells #[] e) hB1) _ hO
    rw [Array.setIfInBounds_comm _ _ (Ne.symm ne2), put_comm _ (Ne.symm de2)]
    refine wpAnyH_all r4 (by simp) fun q hq => ?_
    obtain rfl : q = i1 := by simpa using hq
    refine ops_val g1 e1 (wanted_none n1 _) (exec_append x1 ((eval_put_ne _ (Ne.symm de2)).trans (eval_put_same _ s0)) ((eval_put_ne _ de6).trans ((eval_put_ne _ de4).trans hev)) (by rw [y1]; exact h1)) (lb _ h4) ?_
    rw [Array.setIfInBounds_comm _ _ (Ne.symm ne3), put_comm _ (Ne.symm de3)]
    refine fin _ _ _ _ h4 h2 (((newR _).alloc _).far (by simp; omega) h3 ?_)
    simp [Value.ownBlock]
end
end Go.Proofs.YtbnpmeaaaecciaaGreat
/- The answer's graph: types, and what they are as nodes. -/
namespace Go.Proofs.YtbnpmeaaaecciaaGreat
/-- A node of the answer's: its type, its parts. -/
abbrev Rn := Int × Int × Sl × Fo × List Nat
def rG (x : Rn) : Gn := (x.1, x.2.1, 1 + x.2.2.2.1.size, x.2.2.2.2)
def rnode (R : List Rn) (k n : Int) (u : Sl) (ps : Fo) (P : List Nat) : List Rn × Nat :=
  match (if k = 1 then gvar (R.map rG) n else none) with
  | some i => (R, i)
  | none => (R ++ [(k, n, u, ps, P)], R.length)
mutual
/-- A type's node. -/
def radd1 (R : List Rn) (k n : Int) (u : Sl) (ps : Fo) : List Rn × Nat := let r := radd R ps; rnode r.1 k n u ps r.2
/-- Those of some types. -/
def radd (R : List Rn) : Fo → List Rn × List Nat
  | .nil => (R, [])
  | .cons k n u ps r => let x := radd1 R k n u ps; let y := radd x.1 r; (y.1, x.2 :: y.2)
end
theorem radd_nil (R : List Rn) : radd R .nil = (R, []) := by simp [radd]
theorem radd_cons (R : List Rn) (k n : Int) (u : Sl) (ps r : Fo) : radd R (.cons k n u ps r) = ((radd (radd1 R k n u ps).1 r).1, (radd1 R k n u ps).2 :: (radd (radd1 R k n u ps).1 r).2) := by simp [radd]
theorem radd1_eq (R : List Rn) (k n : Int) (u : Sl) (ps : Fo) : radd1 R k n u ps = rnode (radd R ps).1 k n u ps (radd R ps).2 := by simp [radd1]
theorem rnode_G (R : List Rn) (k n : Int) (u : Sl) (ps : Fo) (P : List Nat) (hs : gsum (R.map rG) P = ps.size) : (rnode R k n u ps P).1.map rG = (gnode (R.map rG) k n P).1 ∧ (rnode R k n u ps P).2 = (gnode (R.map rG) k n P).2 := by
  unfold rnode gnode
  cases (if k = 1 then gvar (R.map rG) n else none) with
  | some i => exact ⟨rfl, rfl⟩
  | none => simp [rG, hs]
/-- It is the graph. -/
theorem radd_G (F : Fo) : ∀ R, GI (R.map rG) → Vok F → (radd R F).1.map rG = (gadd (R.map rG) F).1 ∧ (radd R F).2 = (gadd (R.map rG) F).2 := by
  induction F with
  | nil => intro R _ _; rw [radd_nil, gadd_nil]; exact ⟨rfl, rfl⟩
  | cons k n u ps r i1 i2 =>
    intro R hG hv
    obtain ⟨h1, h2, h3⟩ := hv
    obtain ⟨a1, a2⟩ := i1 R hG h2
    have g1 := gadd_ok ps (R.map rG) hG h2
    have hk : k = 1 → (gadd (R.map rG) ps).2 = [] := fun h => by rw [h1 h, gadd_nil]
    have g2 := (gnode_ok (gadd (R.map rG) ps).1 k n (gadd (R.map rG) ps).2 g1.ok hk).2.1
    obtain ⟨b1, b2⟩ := rnode_G (radd R ps).1 k n u ps (radd R ps).2 (by rw [a1, a2]; exact g1.sum)
    rw [a1, ← radd1_eq, a2, ← gadd1_eq] at b1 b2
    rw [← gadd1_eq] at g2
    obtain ⟨c1, c2⟩ := i2 (radd1 R k n u ps).1 (by rw [b1]; exact g2) h3
    rw [radd_cons, gadd_cons, ← b1, ← b2]
    exact ⟨c1, by rw [c2]⟩
end Go.Proofs.YtbnpmeaaaecciaaGreat
/- The guard of the laws: is there room for a type? -/
namespace Go.Proofs.YtbnpmeaaaecciaaGreat
open Go.RowKit

/-- What room gives. -/
def RoomIs (n deep : Nat) (f : Fo) (r : Int) : Prop :=
  -1 ≤ r ∧ r ≤ n ∧ (0 ≤ r → 1 + (f.size : Int) + r = n ∧ 1 + f.depth ≤ deep) ∧ (1 + f.size ≤ n → 1 + f.depth ≤ deep → r = (n : Int) - (1 + f.size))
theorem RoomIs.zero (n : Nat) (f : Fo) : RoomIs n 0 f (-1) := ⟨by omega, by omega, by omega, by omega⟩
theorem RoomIs.none (deep : Nat) (f : Fo) : RoomIs 0 deep f (-1) := ⟨by omega, by omega, by omega, by omega⟩
end Go.Proofs.YtbnpmeaaaecciaaGreat
