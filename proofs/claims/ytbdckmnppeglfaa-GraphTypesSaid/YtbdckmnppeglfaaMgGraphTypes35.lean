/- Texts of one proof, one behind the other. -/
import Derived.Test.YtbdckmnppeglfaaMgGraphTypes25
import Derived.Test.YtbdckmnppeglfaaMgGraphTypes26
import Derived.Test.YtbdckmnppeglfaaMgGraphTypes9
import Derived.Test.YtbdckmnppeglfaaMgGraphTypes17
import Derived.Test.YtbdckmnppeglfaaMgGraphTypes34
/- GraphNone, walked. -/
namespace Go.Proofs.Ytbdckmnppeglfaa
open Go.RowKit Go.Shelf
set_option maxRecDepth 100000
set_option maxHeartbeats 4000000 in
theorem gnone_law (w : World) (k n : Int) (F : Fo) (u : Sl) (i m : Int) (hF : TyV w.heap.size w F (slv u)) : Calls Try.prog 6 #[tyVal k n (slv u), .int .i64 i, .int .i64 m] w fun e w' => e = .returned (.bool true) ∧ Below w.heap.size w w' := by
  obtain ⟨u1, u2, u3⟩ := u
  obtain ⟨w1, hw1⟩ : ∃ w1, w.alloc (.cells #[.int .i64 k, .int .i64 n, .slice u1 u2 u3] 38) = w1 := ⟨_, rfl⟩
  have hb1 : Below w.heap.size w w1 := by rw [← hw1]; exact (Below.refl _ _).alloc (Nat.le_refl _) _
  have hB1 : w1.heap[w.heap.size]? = some (.cells #[.int .i64 k, .int .i64 n, .slice u1 u2 u3] 38) := by rw [← hw1]; exact heap_alloc_new _ _
  have c0 : w1.cell? ⟨w.heap.size, 0, none⟩ = some (.int .i64 k) := cell_of_row w1 _ 0 _ _ (0, 0) hB1
  have c1 : w1.cell? ⟨w.heap.size, 1, none⟩ = some (.int .i64 n) := cell_of_row w1 _ 1 _ _ (0, 0) hB1
  have c2 : w1.cell? ⟨w.heap.size, 2, none⟩ = some (.slice u1 u2 u3) := cell_of_row w1 _ 2 _ _ (0, 0) hB1
  have hlt : w.heap.size < w1.heap.size := by rw [← hw1]; simp
  have hg := great_any F k n (slv (u1, u2, u3)) w1 ((hF.below hb1).keep (Nat.le_of_lt hlt) fun _ _ _ => rfl)
  obtain ⟨gr, hgr⟩ : ∃ gr, (!(decide (1 + F.size ≤ 300) && decide (1 + F.depth ≤ 40))) = gr := ⟨_, rfl⟩
  rw [hgr] at hg
  have HGT := Lib.hid hg
  have HB1 := Lib.hid hb1
  have HX1 := Lib.hid hB1
  clear hg hgr hF hb1 hB1
  dsimp only [tyVal, slv] at HGT ⊢
  go_enter Try.func6, Try.ntmps6
  go_wp2_with fail
  refine HGT.out.mono ?_
  clear HGT
  rintro e w2 ⟨rfl, hb2⟩
  have HB2 := Lib.hid (HB1.out.trans (hb2.mono (Nat.le_of_lt hlt)))
  have x0 : w2.cell? ⟨w.heap.size, 0, none⟩ = some (.int .i64 k) := (hb2.cell (p := ⟨w.heap.size, 0, none⟩) hlt).trans c0
  have x1 : w2.cell? ⟨w.heap.size, 1, none⟩ = some (.int .i64 n) := (hb2.cell (p := ⟨w.heap.size, 1, none⟩) hlt).trans c1
  have x2 : w2.cell? ⟨w.heap.size, 2, none⟩ = some (.slice u1 u2 u3) := (hb2.cell (p := ⟨w.heap.size, 2, none⟩) hlt).trans c2
  clear c0 c1 c2 hb2 HX1
  cases gr
  · go_wp2_with fail
    refine (add_none w2 k n (u1, u2, u3)).mono ?_
    rintro e w3 ⟨rfl, hb3⟩
    have HB3 := Lib.hid (HB2.out.trans (hb3.mono HB2.out.size))
    clear x0 x1 x2 hb3
    go_wp2_with fail
    refine (var_none w3 i).mono ?_
    rintro e w4 ⟨rfl, hb4⟩
    have HB4 := Lib.hid (HB3.out.trans (hb4.mono HB3.out.size))
    clear hb4
    go_wp2_with fail
    refine (name_none w4 i).mono ?_
    rintro e w5 ⟨rfl, hb5⟩
    have HB5 := Lib.hid (HB4.out.trans (hb5.mono HB4.out.size))
    clear hb5
    go_wp2_with fail
    refine (type_none w5 i m).mono ?_
    rintro e w6 ⟨rfl, hb6⟩
    have HB6 := Lib.hid (HB5.out.trans (hb6.mono HB5.out.size))
    obtain ⟨w7, hw7⟩ : ∃ w7, w6.alloc (.cells #[.int .i64 0, .int .i64 0, .slice none 0 0] 38) = w7 := ⟨_, rfl⟩
    have hb7 : Below w6.heap.size w6 w7 := by rw [← hw7]; exact (Below.refl _ _).alloc (Nat.le_refl _) _
    have hB7 : w7.heap[w6.heap.size]? = some (.cells #[.int .i64 0, .int .i64 0, .slice none 0 0] 38) := by rw [← hw7]; exact heap_alloc_new _ _
    have d0 : w7.cell? ⟨w6.heap.size, 0, none⟩ = some (.int .i64 0) := cell_of_row w7 _ 0 _ _ (0, 0) hB7
    have d1 : w7.cell? ⟨w6.heap.size, 1, none⟩ = some (.int .i64 0) := cell_of_row w7 _ 1 _ _ (0, 0) hB7
    have d2 : w7.cell? ⟨w6.heap.size, 2, none⟩ = some (.slice none 0 0) := cell_of_row w7 _ 2 _ _ (0, 0) hB7
    have HB7 := Lib.hid (HB6.out.trans (hb7.mono HB6.out.size))
    have HW7 := Lib.hid hw7
    clear hb6 hb7 hB7 hw7
    dsimp only [tyVal]
    go_wp2_with fail
    rw [HW7.out]
    have hs := rsame_any 1 .nil .nil 0 0 0 0 (.slice none 0 0) (.slice none 0 0) w7 (by simp [Fo.size]) (by simp [Fo.size]) (by simp [Fo.size]) (no_parts _ _) (no_parts _ _)
    rw [show (((0 : Int) == 0 && (0 : Int) == 0 && Fo.nil.same Fo.nil) = true) from rfl] at hs
    have HS := Lib.hid hs
    clear hs
    dsimp only [tyVal] at HS
    refine HS.out.mono ?_
    clear HS
    rintro e w8 ⟨rfl, hb8⟩
    have HB8 := Lib.hid (HB7.out.trans (hb8.mono HB7.out.size))
    clear hb8 d0 d1 d2 HW7
    go_wp2_with fail
    refine (kind_none w8 i).mono ?_
    rintro e w9 ⟨rfl, hb9⟩
    have HB9 := Lib.hid (HB8.out.trans (hb9.mono HB8.out.size))
    clear hb9
    go_wp2_with fail
    refine (parts_none w9 i).mono ?_
    rintro e w10 ⟨rfl, hb10⟩
    have HB10 := Lib.hid (HB9.out.trans (hb10.mono HB9.out.size))
    clear hb10
    go_wp2_with fail
    refine (vars_none w10).mono ?_
    rintro e w11 ⟨rfl, hb11⟩
    have HB11 := Lib.hid (HB10.out.trans (hb11.mono HB10.out.size))
    clear hb11
    go_wp2_with fail
    refine (len_none w11).mono ?_
    rintro e w12 ⟨rfl, rfl⟩
    go_wp2_with fail
    refine (awake11 _).mono ?_
    rintro e w13 ⟨rfl, hb13⟩
    have HB13 := Lib.hid (HB11.out.trans (hb13.mono HB11.out.size))
    clear hb13
    go_wp2_with fail
    go_ret
    exact ⟨rfl, HB13.out⟩
  · go_wp2_with fail
    refine (awake11 w2).mono ?_
    rintro e w3 ⟨rfl, hb3⟩
    go_wp2_with fail
    go_ret
    exact ⟨rfl, HB2.out.trans (hb3.mono HB2.out.size)⟩
end Go.Proofs.Ytbdckmnppeglfaa
/- An argument that is a type, opened. -/
namespace Go.Proofs.Ytbdckmnppeglfaa
open Go.RowKit Go.ChangeShapes Go.WideShapes Go.ChangeAt Go.Deep

set_option maxRecDepth 100000 in
theorem ArgT1_open {H : Type} {enc : TypeId × Value → H} {W : World} {v : Value} {d : DataW H} {p : List MemPlace} {r : Reach} {base : Nat}
    (hv : Value.okWide Try.prog W r base 38 v) (h : DataW.Trod enc Try.prog W 0 (fun _ => true) true 38 v d p) : ∃ (k n : Int) (F : Fo) (u : Sl), v = tyVal k n (slv u) ∧ TyV W.heap.size W F (slv u) ∧ (Lit.int .i64 n).wf = true ∧ F.wf := by
  obtain ⟨cs, rfl, hsz⟩ := okWide_struct Try.underlying38 hv
  have hC : Try.prog.cellsOf 38 = 3 := by kernel_rfl
  rw [hC] at hsz
  obtain ⟨fuel, hf⟩ := h
  obtain ⟨ys, n', hn', _, hlen2, hyl, hfld⟩ := DataW.trod_struct Try.underlying38 hf
  have hI : Try.prog.cellsOf 3 = 1 := by kernel_rfl
  have hS : Try.prog.cellsOf 22 = 1 := by kernel_rfl
  have hyl' : ys.length = 3 := hyl
  match cs, hsz with
  | ⟨[c0, c1, c2]⟩, _ =>
    have q0 : DataW.trod enc Try.prog W 0 (fun _ => true) true n' 3 (([c0, c1, c2].drop 0).take (Try.prog.cellsOf 3)) = ys[0]? := hfld 0 _ rfl
    have q1 : DataW.trod enc Try.prog W 0 (fun _ => true) true n' 3 (([c0, c1, c2].drop 1).take (Try.prog.cellsOf 3)) = ys[1]? := hfld 1 _ rfl
    have q2 : DataW.trod enc Try.prog W 0 (fun _ => true) true n' 22 (([c0, c1, c2].drop 2).take (Try.prog.cellsOf 22)) = ys[2]? := hfld 2 _ rfl
    rw [hI, List.getElem?_eq_getElem (by omega)] at q0
    rw [hI, List.getElem?_eq_getElem (by omega)] at q1
    rw [hS, List.getElem?_eq_getElem (by omega)] at q2
    obtain ⟨k0, hk0, _, _⟩ := DataW.trod_int Try.underlying3 q0
    obtain ⟨k1, hk1, _, hw1⟩ := DataW.trod_int Try.underlying3 q1
    obtain ⟨F, u, hu, hF, hFw⟩ := types_read n' c2 _ q2
    simp at hk0 hk1
    subst hk0; subst hk1; subst hu
    exact ⟨k0, k1, F, u, rfl, hF, hw1, hFw⟩
end Go.Proofs.Ytbdckmnppeglfaa
/- GraphNone, walked; arguments that are types. -/
namespace Go.Proofs.Ytbdckmnppeglfaa
open Go.RowKit
theorem i64_wf {n : Int} (h : (Lit.int .i64 n).wf = true) : (Lit.int .i64 n).wf = true := h
end Go.Proofs.Ytbdckmnppeglfaa
/- Arguments that are lists of types, opened. -/
namespace Go.Proofs.Ytbdckmnppeglfaa
open Go.RowKit Go.ChangeShapes Go.WideShapes Go.ChangeAt Go.Deep
set_option maxRecDepth 100000
def ArgF (W : World) (v : Value) (F : Fo) : Prop := TyV W.heap.size W F v ∧ F.wf
theorem ArgF_open {H : Type} {enc : TypeId × Value → H} {W : World} {r : Reach} {b0 : Nat} {v : Value} {d : DataW H} {p : List MemPlace} (hval : Value.okWide Try.prog W r b0 22 v)
    (h : DataW.Trod enc Try.prog W 0 (fun _ => true) true 22 v d p) : ∃ F, ArgF W v F := by
  obtain ⟨a0, len, cap, rfl⟩ := okWide_slice Try.underlying22 hval
  obtain ⟨fuel, hf⟩ := h
  obtain ⟨F, _, _, hF, hwf⟩ := types_read fuel _ _ hf
  exact ⟨F, hF, hwf⟩
end Go.Proofs.Ytbdckmnppeglfaa
/- GraphTypes, walked, and its arguments. -/

