/- TypesPrint. -/
import Derived.Test.YtagdpohgicihnaaDoorAwB
import Derived.Test.YtagdpohgicihnaaDoorTyO
import Derived.Test.YtagdpohgicihnaaDoorTxC
import Derived.Test.YtagdpohgicihnaaDoorTyJ
import Derived.Deep.RegionWith
namespace Go.Proofs.YtagdpohgicihnaaDoor
open Go.RowKit Go.Shelf

set_option maxRecDepth 100000 in
set_option maxHeartbeats 4000000 in
theorem prints_any (w : World) (k n : Int) (u : Sl) (F : Fo) (hF : TyV w.heap.size w F (slv u)) (ht : Tab w) :
    Calls Tryd.prog 4 #[tyVal k n (slv u)] w fun e w' => e = .returned (.bool true) ∧ Below w.heap.size w w' := by
  obtain ⟨W0, hW0⟩ : ∃ W0, w.alloc (.cells #[.int .i64 k, .int .i64 n, slv u] 24) = W0 := ⟨_, rfl⟩
  have hb0 : Below w.heap.size w W0 := by rw [← hW0]; exact (Below.refl _ _).alloc (Nat.le_refl _) _
  have hx0 : W0.heap[w.heap.size]? = some (Obj.cells #[.int .i64 k, .int .i64 n, slv u] 24) := by rw [← hW0]; exact heap_alloc_new w _
  have hl : w.heap.size < W0.heap.size := (Array.getElem?_eq_some_iff.1 hx0).1
  have ht0 := Lib.hid (ht.below hb0)
  have hF0 := Lib.hid (show TyV W0.heap.size W0 F (slv u) from hF.keep hb0.size fun b off hlt => hb0.cell (p := ⟨b, off, none⟩) hlt)
  have hGR := great_any F k n (slv u)
  obtain ⟨gb, hgb⟩ : ∃ gb, (!(decide (1 + F.size ≤ 300) && decide (1 + F.depth ≤ 40))) = gb := ⟨_, rfl⟩
  rw [hgb] at hGR
  have HGR := Lib.hid hGR
  have HGB := Lib.hid hgb
  have hRR := fun W => rright_any _ F k n (slv u) W (Nat.lt_succ_self _)
  have hPR := fun W => print_any W k n u F
  have hTX := fun W => rtext_any _ F k n (slv u) W (Nat.lt_succ_self _)
  have haok := allAlone_ok F hF.list
  obtain ⟨okb, hok⟩ : ∃ okb, (alone k n F.len && F.ok) = okb := ⟨_, rfl⟩
  rw [haok, hok] at hRR
  rw [hok] at hPR
  obtain ⟨X, hX⟩ : ∃ X : ByteArray, X = ⟨(oneT k n F.txts).toArray⟩ := ⟨_, rfl⟩
  rw [← hX] at hTX
  obtain ⟨u1, u2, u3⟩ := u
  dsimp only [tyVal, slv] at *
  have x0 : W0.cell? ⟨w.heap.size, 0, none⟩ = some (.int .i64 k) := cell_of_row W0 _ 0 _ _ (0, 0) hx0
  have x1 : W0.cell? ⟨w.heap.size, 1, none⟩ = some (.int .i64 n) := cell_of_row W0 _ 1 _ _ (0, 0) hx0
  have x2 : W0.cell? ⟨w.heap.size, 2, none⟩ = some (.slice u1 u2 u3) := cell_of_row W0 _ 2 _ _ (0, 0) hx0
  have HRR := Lib.hid hRR
  have HPR := Lib.hid hPR
  have HTX := Lib.hid hTX
  have HB0 := Lib.hid hb0
  have HX := Lib.hid hX
  have HOK := Lib.hid hok
  clear hGR hgb hRR hPR hTX haok hok hb0 hx0 ht hF hX
  go_enter Tryd.func4, Tryd.ntmps4
  cases gb with
  | true =>
    go_wp2_with (first
      | (go_at_call 10; refine (HGR.out _ hF0.out).mono ?_; rintro e w2 ⟨rfl, hb2⟩; have HB2 := Lib.hid hb2; clear hb2)
      | (go_at_call 11; refine (awake_any w2 (ht0.out.below HB2.out)).mono ?_; rintro e w3 ⟨rfl, hb3⟩)
      | fail)
    go_ret
    exact ⟨rfl, HB0.out.trans ((HB2.out.trans (hb3.mono HB2.out.size)).mono HB0.out.size)⟩
  | false =>
    have hps : F.size ≤ 299 := by
      have := HGB.out
      simp at this
      omega
    cases okb with
    | false =>
      go_wp2_with (first
        | (go_at_call 10; refine (HGR.out _ hF0.out).mono ?_; rintro e w2 ⟨rfl, hb2⟩; obtain ⟨y0, y1, y2⟩ := And.intro ((hb2.cell (p := ⟨w.heap.size, 0, none⟩) hl).trans x0) (And.intro ((hb2.cell (p := ⟨w.heap.size, 1, none⟩) hl).trans x1) ((hb2.cell (p := ⟨w.heap.size, 2, none⟩) hl).trans x2)); have HB2 := Lib.hid hb2; clear hb2)
        | (go_at_call 14; refine (HRR.out _ (by omega) (hF0.out.below HB2.out |>.keep HB2.out.size fun _ _ _ => rfl)).mono ?_; rintro e w3 ⟨rfl, hb3⟩; have hb3' := HB2.out.trans (hb3.mono HB2.out.size); obtain ⟨z0, z1, z2⟩ := And.intro ((hb3'.cell (p := ⟨w.heap.size, 0, none⟩) hl).trans x0) (And.intro ((hb3'.cell (p := ⟨w.heap.size, 1, none⟩) hl).trans x1) ((hb3'.cell (p := ⟨w.heap.size, 2, none⟩) hl).trans x2)); have HB3 := Lib.hid hb3'; clear hb3 hb3')
        | (go_at_call 26; refine (HPR.out _ (hF0.out.below HB3.out |>.keep HB3.out.size fun _ _ _ => rfl) (by omega) (ht0.out.below HB3.out)).mono ?_; rintro e w4 ⟨rfl, hb4⟩; have HB4 := Lib.hid (HB3.out.trans (hb4.mono HB3.out.size)); clear hb4; dsimp only [strB])
        | (go_at_call 11; refine (awake_any _ (ht0.out.below HB4.out)).mono ?_; rintro e w5 ⟨rfl, hb5⟩)
        | fail)
      exact bodyPost_ret (results_tmp rfl _ _ _) rfl ⟨rfl, HB0.out.trans ((HB4.out.trans (hb5.mono HB4.out.size)).mono HB0.out.size)⟩
    | true =>
      have haf : alone k n F.len = true ∧ F.ok = true := by simpa using HOK.out
      have HAF := Lib.hid haf
      clear haf
      go_wp2_with (first
        | (go_at_call 10; refine (HGR.out _ hF0.out).mono ?_; rintro e w2 ⟨rfl, hb2⟩; obtain ⟨y0, y1, y2⟩ := And.intro ((hb2.cell (p := ⟨w.heap.size, 0, none⟩) hl).trans x0) (And.intro ((hb2.cell (p := ⟨w.heap.size, 1, none⟩) hl).trans x1) ((hb2.cell (p := ⟨w.heap.size, 2, none⟩) hl).trans x2)); have HB2 := Lib.hid hb2; clear hb2)
        | (go_at_call 14; refine (HRR.out _ (by omega) (hF0.out.below HB2.out |>.keep HB2.out.size fun _ _ _ => rfl)).mono ?_; rintro e w3 ⟨rfl, hb3⟩; have hb3' := HB2.out.trans (hb3.mono HB2.out.size); obtain ⟨z0, z1, z2⟩ := And.intro ((hb3'.cell (p := ⟨w.heap.size, 0, none⟩) hl).trans x0) (And.intro ((hb3'.cell (p := ⟨w.heap.size, 1, none⟩) hl).trans x1) ((hb3'.cell (p := ⟨w.heap.size, 2, none⟩) hl).trans x2)); have HB3 := Lib.hid hb3'; clear hb3 hb3')
        | fail)
      have haf := HAF.out
      simp only [strB, ← HX.out, if_true] at HPR
      have hPX : ∀ W, Below W0.heap.size W0 W → Calls Tryd.prog 26 #[.agg #[.int .i64 k, .int .i64 n, .slice u1 u2 u3]] W fun e w' => e = .returned (.string X) ∧ Below W0.heap.size W0 w' := fun W hb => (HPR.out W ((hF0.out.below hb).keep hb.size fun _ _ _ => rfl) (by omega) (ht0.out.below hb)).mono fun e w' ⟨h1, h2⟩ => ⟨h1, hb.trans (h2.mono hb.size)⟩
      have hTX : ∀ W, Below W0.heap.size W0 W → Calls Tryd.prog 27 #[.agg #[.int .i64 k, .int .i64 n, .slice u1 u2 u3]] W fun e w' => e = .returned (.string X) ∧ Below W0.heap.size W0 w' := fun W hb => (HTX.out W (by omega) haf.1 haf.2 ((hF0.out.below hb).keep hb.size fun _ _ _ => rfl)).mono fun e w' ⟨h1, h2⟩ => ⟨h1, hb.trans (h2.mono hb.size)⟩
      have hAW : ∀ W, Below W0.heap.size W0 W → Calls Tryd.prog 11 #[] W fun e w' => e = .returned (.bool true) ∧ Below W0.heap.size W0 w' := fun W hb => (awake_any W (ht0.out.below hb)).mono fun e w' ⟨h1, h2⟩ => ⟨h1, hb.trans (h2.mono hb.size)⟩
      have HPX := Lib.hid hPX
      have HTX2 := Lib.hid hTX
      have HAW := Lib.hid hAW
      clear hPX hTX hAW haf
      go_region_with (first
        | (go_at_call 11; refine (HAW.out _ ?_).mono ?_; (first | exact HB5.out | exact HB5.out.drew); rintro e w6 ⟨rfl, hb6⟩; have HB6 := Lib.hid hb6; clear hb6)
        | (go_at_call 26; refine (HPX.out _ ?_).mono ?_; (first | exact HB4.out | exact HB4.out.drew); rintro e w5 ⟨rfl, hbx⟩; obtain ⟨a0, a1, a2⟩ := And.intro ((hbx.cell (p := ⟨w.heap.size, 0, none⟩) hl).trans x0) (And.intro ((hbx.cell (p := ⟨w.heap.size, 1, none⟩) hl).trans x1) ((hbx.cell (p := ⟨w.heap.size, 2, none⟩) hl).trans x2)); have HB5 := Lib.hid hbx; clear hbx)
        | (go_at_call 27; refine (HTX2.out _ ?_).mono ?_; (first | exact HB4.out | exact HB4.out.drew); rintro e w5 ⟨rfl, hbx⟩; obtain ⟨a0, a1, a2⟩ := And.intro ((hbx.cell (p := ⟨w.heap.size, 0, none⟩) hl).trans x0) (And.intro ((hbx.cell (p := ⟨w.heap.size, 1, none⟩) hl).trans x1) ((hbx.cell (p := ⟨w.heap.size, 2, none⟩) hl).trans x2)); have HB5 := Lib.hid hbx; clear hbx)
        | (go_at_call 26; refine (HPX.out _ ?_).mono ?_; (first | exact HB3.out | exact HB3.out.drew); rintro e w4 ⟨rfl, hbx⟩; obtain ⟨a0, a1, a2⟩ := And.intro ((hbx.cell (p := ⟨w.heap.size, 0, none⟩) hl).trans x0) (And.intro ((hbx.cell (p := ⟨w.heap.size, 1, none⟩) hl).trans x1) ((hbx.cell (p := ⟨w.heap.size, 2, none⟩) hl).trans x2)); have HB4 := Lib.hid hbx; clear hbx)
        | (go_at_call 27; refine (HTX2.out _ ?_).mono ?_; (first | exact HB3.out | exact HB3.out.drew); rintro e w4 ⟨rfl, hbx⟩; obtain ⟨a0, a1, a2⟩ := And.intro ((hbx.cell (p := ⟨w.heap.size, 0, none⟩) hl).trans x0) (And.intro ((hbx.cell (p := ⟨w.heap.size, 1, none⟩) hl).trans x1) ((hbx.cell (p := ⟨w.heap.size, 2, none⟩) hl).trans x2)); have HB4 := Lib.hid hbx; clear hbx)
        | fail)
      all_goals go_wp2_with fail
      all_goals exact bodyPost_ret (results_tmp rfl _ _ _) rfl ⟨rfl, HB0.out.trans (HB6.out.mono HB0.out.size)⟩
end Go.Proofs.YtagdpohgicihnaaDoor
