/- SignatureLevels. -/
import Derived.Test.YtkgjojcollignaaDoorSgK
import Derived.Test.YtkgjojcollignaaDoorSgN
import Derived.Test.YtkgjojcollignaaDoorTyL
namespace Go.Proofs.YtkgjojcollignaaDoor
open Go.RowKit Go.Shelf

theorem same_img {f g h : Fo} (a : Img id f g) (b : Img id f h) : g.same h = true := by
  induction f generalizing g h with
  | nil => cases g <;> cases h <;> simp_all [Img, Fo.same]
  | cons k n u ps r ih1 ih2 =>
    cases g with
    | nil => simp [Img] at a
    | cons k1 n1 u1 ps1 r1 =>
      cases h with
      | nil => simp [Img] at b
      | cons k2 n2 u2 ps2 r2 =>
        obtain ⟨e1, e2, e3, e4⟩ := a
        obtain ⟨e1', e2', e3', e4'⟩ := b
        simp [Fo.same, e1, e1', e2, e2', ih1 e3 e3', ih2 e4 e4']
theorem tk_in (ts : List TV) (i : Int) (h : (tkOf namedB ts).sg i ≠ 0 ∨ (tkOf namedB ts).bs i ≠ none) : 0 ≤ i ∧ i < ts.length := by
  by_cases ho : i < 0 ∨ (ts.length : Int) ≤ i
  · exfalso
    have ht := tokAt_out ts i ho
    rcases h with h | h
    · apply h
      show sgOf ts i = 0
      simp [sgOf, seesB, ht]
    · apply h
      show namedB (tokAt ts i) = none
      rw [ht]
      simp [namedB]
  · omega
set_option maxRecDepth 100000 in
set_option maxHeartbeats 8000000 in
theorem levels_any (w : World) (v : Value) (ts : List TV) (hrd : RdT w v ts) (m : Int) (hm : 0 ≤ m ∧ m ≤ 255) (ht : Tab w) :
    Calls Tryd.prog 5 #[v, .int .u8 m] w fun e w' => e = .returned (.bool true) ∧ Below w.heap.size w w' := by
  obtain ⟨A, n, c, hvv⟩ : ∃ A n c, v = .slice A n c := by
    rcases hrd.2 with ⟨_, A, c, h⟩ | ⟨b, off, cap, h, _⟩
    · exact ⟨A, 0, c, h⟩
    · exact ⟨_, _, _, h⟩
  have HGR := Lib.hid (great4_any w v ts hrd)
  have HT := Lib.hid ht
  have HRD := Lib.hid hrd
  clear ht hrd
  subst hvv
  go_enter Tryd.func5, Tryd.ntmps5
  go_wp2_with fail
  refine HGR.out.mono ?_
  rintro e w' ⟨⟨gb, rfl, hgb⟩, rfl⟩
  cases gb with
  | true =>
    clear hgb
    go_wp2_with fail
    refine (awake4_any _ HT.out).mono ?_
    rintro e w2 ⟨rfl, hb2⟩
    go_wp2_with fail
    go_ret
    exact ⟨rfl, hb2⟩
  | false =>
    have hlen := hgb rfl
    have HR1 := Lib.hid (sread_any w _ ts 0 1 m HRD.out (by omega) (by omega))
    clear hgb
    have e1 : IntKind.i64.wrap m = m := IntWalk.i64_in _ (by omega)
    have e2 : IntKind.i64.wrap (m + 1) = m + 1 := IntWalk.i64_in _ (by omega)
    go_wp2_with fail
    refine HR1.out.mono ?_
    rintro e w1 ⟨o1, ⟨u1, u2, u3⟩, f1, hR1, rfl, hf1, hfr1, hb1⟩
    have hal1 : Below w1.heap.size w1 (w1.alloc (.cells #[.int .i64 o1.ty.1, .int .i64 o1.ty.2.1, .slice u1 u2 u3] 28)) := (Below.refl _ _).alloc (Nat.le_refl _) _
    have hbw1 : Below w.heap.size w (w1.alloc (.cells #[.int .i64 o1.ty.1, .int .i64 o1.ty.2.1, .slice u1 u2 u3] 28)) := hb1.trans (hal1.mono hb1.size)
    have HR2 := Lib.hid (sread_any (w1.alloc (.cells #[.int .i64 o1.ty.1, .int .i64 o1.ty.2.1, .slice u1 u2 u3] 28)) _ ts 0 1 (m + 1) (HRD.out.below hbw1) (by omega) (by omega))
    have hbx1 : (w1.alloc (.cells #[.int .i64 o1.ty.1, .int .i64 o1.ty.2.1, .slice u1 u2 u3] 28)).heap[w1.heap.size]? = some (Obj.cells (tyC3 (o1.ty.1, o1.ty.2.1, (u1, u2, u3), f1)) 28) := heap_alloc_new w1 _
    have hfr1' := hfr1.below hal1
    have HH1 := Lib.hid (And.intro hR1 (And.intro hf1 (And.intro hfr1' (And.intro hbw1 hbx1))))
    clear hR1 hf1 hfr1 hfr1' hb1 hal1 hbw1 hbx1
    dsimp only [tyVal, slv]
    go_wp2_with fail
    refine HR2.out.mono ?_
    rintro e w2 ⟨o2, ⟨v1, v2, v3⟩, f2, hR2, rfl, hf2, hfr2, hb2⟩
    obtain ⟨hR1, hf1, hfr1, hbw1, hbx1⟩ := HH1.out
    obtain ⟨hM1, hM2⟩ := hR1.more hR2
    have hsm1 := hR1.small (by omega) (tk_in ts)
    have hsm2 := hR2.small (by omega) (tk_in ts)
    dsimp only [tyVal, slv]
    have hbw2 : Below w.heap.size w w2 := hbw1.trans (hb2.mono (by have := hbw1.size; omega))
    by_cases h4 : o1.no = 4
    · have f4 : (o1.no == 4) = true := by rw [h4]; rfl
      have hpos := hM2 h4
      have f5 : decide (o1.pos ≤ o2.pos) = true := decide_eq_true hpos
      have HAW := Lib.hid (awake4_any (w2.alloc (.cells #[.int .i64 o2.ty.1, .int .i64 o2.ty.2.1, .slice v1 v2 v3] 28)) (HT.out.below (hbw2.trans ((Below.refl _ _).alloc hbw2.size _))))
      have HB2 := Lib.hid (hbw2.trans ((Below.refl _ _).alloc hbw2.size (.cells #[.int .i64 o2.ty.1, .int .i64 o2.ty.2.1, .slice v1 v2 v3] 28)))
      clear hR1 hf1 hfr1 hbw1 hbx1 hM1 hM2 hsm1 hsm2 hR2 hf2 hfr2 hb2 hbw2
      generalize o1.no = q1 at *
      generalize o1.pos = q2 at *
      generalize o2.no = q3 at *
      generalize o2.pos = q4 at *
      go_wp2_with fail
      refine HAW.out.mono ?_
      rintro e w3 ⟨rfl, hb3⟩
      have HB3 := Lib.hid (HB2.out.trans (hb3.mono HB2.out.size))
      clear hb3
      go_wp2_with fail
      go_ret
      exact ⟨rfl, HB3.out⟩
    · obtain rfl := hM1 h4
      have f4 : (o1.no == 4) = false := beq_eq_false_iff_ne.2 h4
      have hlw1 : w1.heap.size < (w1.alloc (.cells #[.int .i64 o1.ty.1, .int .i64 o1.ty.2.1, .slice u1 u2 u3] 28)).heap.size := by simp
      have hal2 : Below w2.heap.size w2 (w2.alloc (.cells #[.int .i64 o1.ty.1, .int .i64 o1.ty.2.1, .slice v1 v2 v3] 28)) := (Below.refl _ _).alloc (Nat.le_refl _) _
      have hbx2 := (hb2.block _ hlw1).trans hbx1
      have hlw2 : w1.heap.size < w2.heap.size := Nat.lt_of_lt_of_le hlw1 hb2.size
      obtain ⟨y0, y1, y2⟩ := ty_cells hbx2
      dsimp only [slv] at y0 y1 y2
      obtain ⟨G1, hG1, hT1⟩ := ((hfr1.below hb2).below hal2).now
      obtain ⟨G2, hG2, hT2⟩ := (hfr2.below hal2).now
      rw [hf1] at hG1
      rw [hf2] at hG2
      have hsame := same_img hG1 hG2
      have hs1 := hG1.size
      have hs2 := hG2.size
      have hS := rsame_any (G1.size + 1) G1 G2 o1.ty.1 o1.ty.2.1 o1.ty.1 o1.ty.2.1 (.slice u1 u2 u3) (.slice v1 v2 v3) (w2.alloc (.cells #[.int .i64 o1.ty.1, .int .i64 o1.ty.2.1, .slice v1 v2 v3] 28)) (by omega) (by omega) (by omega) hT1 hT2
      rw [hsame] at hS
      simp only [beq_self_eq_true, Bool.and_self, tyVal] at hS
      have HS := Lib.hid hS
      have HB2 := Lib.hid (hbw2.trans (hal2.mono hbw2.size))
      clear hR1 hf1 hfr1 hbw1 hbx1 hM1 hM2 hsm1 hsm2 hR2 hf2 hfr2 hb2 hbw2 hbx2 hal2 hG1 hG2 hT1 hT2 hsame hs1 hs2 hS hlw1
      generalize o1.no = q1 at *
      generalize o1.pos = q2 at *
      go_wp2_with fail
      refine HS.out.mono ?_
      rintro e w3 ⟨rfl, hb3⟩
      have HB3 := Lib.hid (HB2.out.trans (hb3.mono HB2.out.size))
      have HAW := Lib.hid (awake4_any w3 (HT.out.below HB3.out))
      clear hb3
      go_wp2_with fail
      refine HAW.out.mono ?_
      rintro e w4 ⟨rfl, hb4⟩
      have HB4 := Lib.hid (HB3.out.trans (hb4.mono HB3.out.size))
      clear hb4
      go_wp2_with fail
      go_ret
      exact ⟨rfl, HB4.out⟩
end Go.Proofs.YtkgjojcollignaaDoor
