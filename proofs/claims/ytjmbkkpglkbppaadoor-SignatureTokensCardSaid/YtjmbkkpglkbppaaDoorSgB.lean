/- signature: the reader's begin, end, endArrows. -/
import Derived.Test.YtjmbkkpglkbppaaDoorSgA
import Derived.Test.YtjmbkkpglkbppaaDoorTyC
namespace Go.Proofs.YtjmbkkpglkbppaaDoor
open Go.RowKit
attribute [local go_sem ↓] builtin_app

theorem begunInfo : (Tryd.prog.info? 92).map (fun i => (i.zero, i.size, i.bytes)) = some (some (.agg #[.bool false, .int .i64 0, .slice none 0 0]), 3, 40) := by kernel_rfl
theorem wp_world {P : Program} {c : Code} {Q : Exit → Act → World → Prop} {a : Act} {W : World} (R : World → Prop) (h : R W) (k : ∀ Z, R Z → Code.wp P c Q a Z) : Code.wp P c Q a W := k W h
/-- What the reader is, and what it has begun. -/
structure St (w0 : World) (X : List Nat) (rb : Nat) (tv : Value) (most : Int) (bf : Value) (i lev : Int) (ms : List MF) (w : World) : Prop where
  own : ∃ av, RdrAt w rb tv i lev most bf av ∧ w.ownsRow w0.heap.size 92 3 av ms.length (ms.flatMap mfC)
  fr : FrI 28 w0.heap.size (X ++ acts ms) w ms
  xs : ∀ b ∈ X, (∃ cs, w.heap[b]? = some (Obj.cells cs 28)) ∧ b ∉ acts ms
  nd : (acts ms).Nodup
  bel : Below w0.heap.size w0 w
  rb_ : w0.heap.size ≤ rb
theorem keepT_below {T : TypeId} {w w' : World} (hb : Below w.heap.size w w') : KeepT T w w' := ⟨hb.size, fun b _ h => (hb.block b (Array.getElem?_eq_some_iff.1 h).1).trans h⟩
theorem own_below2 {w w' : World} {base : Nat} {e : TypeId} {size : Nat} {v : Value} {n : Nat} {xs : List Value} (h : w.ownsRow base e size v n xs) (hb : Below w.heap.size w w') : w'.ownsRow base e size v n xs := by
  refine ⟨h.1, ?_⟩
  rcases h.2 with h2 | ⟨g, cap, cur, hv, hg, hh, r⟩
  · exact .inl h2
  · exact .inr ⟨g, cap, cur, hv, hg, (hb.block g (Array.getElem?_eq_some_iff.1 hh).1).trans hh, r⟩
theorem St.below {w0 : World} {X : List Nat} {rb : Nat} {tv : Value} {most : Int} {bf : Value} {i lev : Int} {ms : List MF} {w w' : World} (h : St w0 X rb tv most bf i lev ms w) (hb : Below w.heap.size w w') : St w0 X rb tv most bf i lev ms w' := by
  obtain ⟨av, h1, h2⟩ := h.own
  exact ⟨⟨av, h1.below hb, own_below2 h2 hb⟩, h.fr.keep (keepT_below hb), fun b hx => ⟨by obtain ⟨cs, hc⟩ := (h.xs b hx).1; exact ⟨cs, (hb.block b (Array.getElem?_eq_some_iff.1 hc).1).trans hc⟩, (h.xs b hx).2⟩, h.nd, h.bel.trans (hb.mono h.bel.size), h.rb_⟩
/-- A store into the reader itself. -/
theorem keepT_set {T : TypeId} {w : World} {b off : Nat} {v : Value} (h : ∀ cs, w.heap[b]? ≠ some (Obj.cells cs T)) : KeepT T w (w.setCell ⟨b, off, none⟩ v) :=
  ⟨by simp [World.setCell], fun k cs hk => (Below.heap_setCell _ _ _ _ (by rintro rfl; exact h cs hk)).trans hk⟩
theorem RdrAt.notT {w : World} {rb : Nat} {tv : Value} {i lev most : Int} {bf av : Value} (h : RdrAt w rb tv i lev most bf av) (T : TypeId) (hT : T ≠ 51) : ∀ cs, w.heap[rb]? ≠ some (Obj.cells cs T) := by
  intro cs hc
  unfold RdrAt at h
  rw [h] at hc
  injection hc with hc
  injection hc with _ h2 _
  exact hT h2.symm
theorem row_set {w : World} {base : Nat} {e : TypeId} {size : Nat} {v : Value} {n : Nat} {xs : List Value} (h : w.ownsRow base e size v n xs) {b off : Nat} {u : Value} (hb : ∀ cs, w.heap[b]? ≠ some (Obj.cells cs e)) : (w.setCell ⟨b, off, none⟩ u).ownsRow base e size v n xs :=
  row_keepT h (keepT_set hb)
theorem RdrAt.set1 {w : World} {rb : Nat} {tv : Value} {i lev most : Int} {bf av : Value} (h : RdrAt w rb tv i lev most bf av) (i' : Int) : RdrAt (w.setCell ⟨rb, 1, none⟩ (.int .i64 i')) rb tv i' lev most bf av := heap_setCell_same w rb 1 _ _ _ h
theorem RdrAt.set2 {w : World} {rb : Nat} {tv : Value} {i lev most : Int} {bf av : Value} (h : RdrAt w rb tv i lev most bf av) (l' : Int) : RdrAt (w.setCell ⟨rb, 2, none⟩ (.int .i64 l')) rb tv i l' most bf av := heap_setCell_same w rb 2 _ _ _ h
theorem RdrAt.set5 {w : World} {rb : Nat} {tv : Value} {i lev most : Int} {bf av : Value} (h : RdrAt w rb tv i lev most bf av) (a' : Value) : RdrAt (w.setCell ⟨rb, 5, none⟩ a') rb tv i lev most bf a' := heap_setCell_same w rb 5 _ _ _ h
theorem keepT_other {T : TypeId} {w w' : World} {rb : Nat} (hs : w.heap.size ≤ w'.heap.size) (hk : ∀ k, k < w.heap.size → k ≠ rb → w'.heap[k]? = w.heap[k]?) (hr : ∀ cs, w.heap[rb]? ≠ some (Obj.cells cs T)) : KeepT T w w' :=
  ⟨hs, fun k cs h => (hk k (Array.getElem?_eq_some_iff.1 h).1 (by rintro rfl; exact hr cs h)).trans h⟩
theorem mfC_snoc (ms : List MF) (m : MF) : (ms ++ [m]).flatMap mfC = ms.flatMap mfC ++ mfC m := by simp
/-- A row of something else does not lie where the reader does. -/
theorem RdrAt.row_ne {w : World} {rb : Nat} {tv : Value} {i lev most : Int} {bf av : Value} (h : RdrAt w rb tv i lev most bf av) {base : Nat} {e : TypeId} {size : Nat} {v : Value} {n : Nat} {xs : List Value} (hr : w.ownsRow base e size v n xs) (he : e ≠ 51) : v.ownBlock ≠ some rb := by
  intro hv
  exact row_not hr he rb hv _ h
/-- These blocks stay. -/
def Kept (X : List Nat) (w w' : World) : Prop := ∀ b ∈ X, w'.heap[b]? = w.heap[b]?
/-- What begin owes. -/
def BeginPost (w0 : World) (X : List Nat) (rb : Nat) (tv : Value) (i lev most : Int) (bf : Value) (ms : List MF) (m : MF) (w : World) (e : Ending) (w' : World) : Prop :=
  (lev = most ∧ e = .returned (.int .i64 4) ∧ (∃ av', RdrAt w' rb tv (i + 1) lev most bf av') ∧ Below w0.heap.size w0 w' ∧ Kept X w w') ∨ (lev ≠ most ∧ e = .returned (.int .i64 0) ∧ St w0 X rb tv most bf (i + 1) (lev + 1) (ms ++ [m]) w' ∧ Kept X w w')
set_option maxRecDepth 100000 in
set_option maxHeartbeats 2000000 in
theorem begin_any (w0 w : World) (X : List Nat) (rb : Nat) (tv : Value) (i lev most l0 : Int) (bf av : Value) (ms : List MF) (ar : Bool) (v : Sl) (L : List Pt)
    (hr : RdrAt w rb tv i lev most bf av) (hown : w.ownsRow w0.heap.size 92 3 av ms.length (ms.flatMap mfC))
    (hf : FrI 28 w0.heap.size (X ++ acts (ms ++ [⟨ar, lev, v, L⟩])) w (ms ++ [⟨ar, lev, v, L⟩])) (hX : ∀ b ∈ X, (∃ cs, w.heap[b]? = some (Obj.cells cs 28)) ∧ b ∉ acts (ms ++ [⟨ar, lev, v, L⟩])) (hnd : (acts (ms ++ [⟨ar, lev, v, L⟩])).Nodup) (hb : Below w0.heap.size w0 w) (hrb : w0.heap.size ≤ rb)
    (hi : 0 ≤ i ∧ i ≤ 1000000) (hl : -9223372036854775808 ≤ lev ∧ lev ≤ most ∧ most ≤ 9223372036854775807) (hm : ms.length ≤ 1000000) :
    Calls Tryd.prog 50 #[.pointer (some ⟨rb, 0, none⟩), .agg #[.bool ar, .int .i64 l0, slv v]] w
      (BeginPost w0 X rb tv i lev most bf ms ⟨ar, lev, v, L⟩ w) := by
  have hlt := hr.lt
  obtain ⟨c0, c1, c2, c3, c4, c5⟩ := hr.cells
  obtain ⟨v1, v2, v3⟩ := v
  dsimp only [slv]
  have hfz : w.frozen? ⟨rb, 1, none⟩ = false := by unfold RdrAt at hr; simp [World.frozen?, hr]
  have hb0 := Lib.hid hb
  have e1 : IntKind.i64.wrap (i + 1) = i + 1 := IntWalk.i64_in _ (by omega)
  obtain ⟨A, c, rfl, hac, hcm⟩ := own_form hown
  have HR := Lib.hid hr
  have HO := Lib.hid hown
  have HF := Lib.hid (And.intro hf hnd)
  have HX := Lib.hid hX
  clear hown hf hnd hr hb hX
  by_cases hlm : lev = most
  · subst hlm
    go_enter Tryd.func50, Tryd.ntmps50
    go_wp2_with fail
    go_quiet (fail)
    go_wp2_with fail
    go_ret
    refine .inl ⟨rfl, rfl, ⟨_, ((HR.out.set1 (i + 1)).below (below_drewN ((Below.refl _ _).alloc (Nat.le_refl _) _) _))⟩, hb0.out.trans (below_drewN ((((Below.refl _ _).setCell (p := ⟨rb, 1, none⟩) hrb _).alloc (by have := hb0.out.size; simpa [World.setCell] using this) _)) _), fun b hb => ?_⟩
    obtain ⟨⟨cs, hc⟩, _⟩ := HX.out b hb
    have hbl := (Array.getElem?_eq_some_iff.1 hc).1
    exact (Below.heap_alloc _ _ _ (by simpa [World.setCell] using hbl)).trans (Below.heap_setCell _ _ _ _ (by rintro rfl; exact HR.out.notT _ (by decide) cs hc))
  · have f1 : (lev == most) = false := beq_eq_false_iff_ne.2 hlm
    have e2 : IntKind.i64.wrap (lev + 1) = lev + 1 := IntWalk.i64_in _ (by omega)
    have HLM := Lib.hid hlm
    clear hlm
    go_enter Tryd.func50, Tryd.ntmps50
    go_wp2_with fail
    go_quiet (fail)
    go_wp2_with fail
    refine wp_world (fun Z => Z.heap.size = w.heap.size + 1 ∧ (∀ k, k < w.heap.size → k ≠ rb → Z.heap[k]? = w.heap[k]?) ∧ RdrAt Z rb tv (i + 1) lev most bf (.slice A ms.length c) ∧ Z.heap[w.heap.size]? = some (Obj.cells #[.bool ar, .int .i64 lev, .slice v1 v2 v3] 92) ∧ Below w0.heap.size w0 Z) ?_ ?_
    · have hsz : (w.setCell ⟨rb, 1, none⟩ (.int .i64 (i + 1))).heap.size = w.heap.size := by simp [World.setCell]
      have hnew := heap_alloc_new (w.setCell ⟨rb, 1, none⟩ (.int .i64 (i + 1))) (.cells #[.bool ar, .int .i64 l0, .slice v1 v2 v3] 92)
      rw [hsz] at hnew
      refine ⟨by simp [World.setCell, World.drewN], fun k hk hne => ?_, ?_, ?_, ?_⟩
      · rw [Below.heap_setCell _ _ _ _ (by simp only; omega)]
        exact (Below.heap_alloc _ _ _ (by rw [hsz]; exact hk)).trans (Below.heap_setCell _ _ _ _ (by simpa using hne))
      · unfold RdrAt
        rw [Below.heap_setCell _ _ _ _ (by simp only; omega)]
        exact (Below.heap_alloc _ _ _ (by rw [hsz]; exact hlt)).trans (HR.out.set1 (i + 1))
      · exact heap_setCell_same _ w.heap.size 1 _ _ _ hnew
      · exact hb0.out.trans ((below_drewN ((((Below.refl _ _).setCell (p := ⟨rb, 1, none⟩) hrb _).alloc (by rw [hsz]; exact hb0.out.size) _)) _).setCell (p := ⟨w.heap.size, 1, none⟩) hb0.out.size _)
    rintro Z ⟨hZs, hZk, hZr, hZb, hZbel⟩
    obtain ⟨z0, z1, z2, z3, z4, z5⟩ := hZr.cells
    have y0 : Z.cell? ⟨w.heap.size, 0, none⟩ = some (.bool ar) := cell_of_row Z _ 0 _ _ (0, 0) hZb
    have y1 : Z.cell? ⟨w.heap.size, 1, none⟩ = some (.int .i64 lev) := cell_of_row Z _ 1 _ _ (0, 0) hZb
    have y2 : Z.cell? ⟨w.heap.size, 2, none⟩ = some (.slice v1 v2 v3) := cell_of_row Z _ 2 _ _ (0, 0) hZb
    have hZown : Z.ownsRow w0.heap.size 92 3 (.slice A ms.length c) ms.length (ms.flatMap mfC) := row_keepT HO.out (keepT_other (by omega) hZk (HR.out.notT _ (by decide)))
    obtain ⟨W1, hW1⟩ : ∃ W1, W1 = (Z.alloc (.cells #[.bool ar, .int .i64 lev, .slice v1 v2 v3] 92)).drew := ⟨_, rfl⟩
    have own1 : W1.ownsRow w0.heap.size 92 3 (.slice A ms.length c) ms.length (ms.flatMap mfC) := by rw [hW1]; exact hZown.alloc _
    have rd1 : Rd W1 3 (.slice (some ⟨Z.heap.size, 0, none⟩) 1 1) 1 [.bool ar, .int .i64 lev, .slice v1 v2 v3] := by
      rw [hW1]; exact rd_new Z [.bool ar, .int .i64 lev, .slice v1 v2 v3] 92 3 1 rfl (by unfold maxLen; omega)
    obtain ⟨i0, hi0, hz0, hz1, hz2⟩ := info_parts begunInfo
    have hbZ := hZbel.size
    obtain ⟨v', w1, hrun, hown1, hg1, _⟩ := run_append_rd (P := Tryd.prog) W1 w0.heap.size 49 49 92 i0 _ 3 40 Tryd.underlying49 hi0 hz0 hz1 hz2 rfl (by omega) (.slice A ms.length c) _ _ own1 _ 1 _ rd1 (by simp [Value.oneCell']) (by unfold maxLen; omega) (by omega) (by rw [hW1]; simp; omega)
    obtain ⟨g, cp, rfl, hg0, hg2⟩ := own_shape hown1 (by omega)
    have hrun2 : (app_ #[49, 49] 49 #[.slice A ms.length c, .slice (some ⟨Z.heap.size, 0, none⟩) 1 1]).run Tryd.prog W1 = .ok (.slice (some ⟨g, 0, none⟩) (ms.length + 1) cp) w1 := hrun
    have hW1r : RdrAt W1 rb tv (i + 1) lev most bf (.slice A ms.length c) := by rw [hW1]; exact hZr.below ((Below.refl _ _).alloc (Nat.le_refl _) _).drew
    have hr1 : RdrAt w1 rb tv (i + 1) lev most bf (.slice A ms.length c) := (hg1.block rb hW1r.lt (fun e => hW1r.row_ne own1 (by decide) e.symm)).trans hW1r
    have hb1 : Below w0.heap.size w0 w1 := hZbel.trans ((((Below.refl _ _).alloc hbZ _).drew).grown (by rw [hW1] at hg1; exact hg1) (by simp; omega) (fun b hb => (own1.lt b hb).1))
    have k1 : KeepT 28 w w1 := by
      refine (keepT_other (rb := rb) (by omega) hZk (HR.out.notT _ (by decide))).trans ((keepT_below (show Below Z.heap.size Z W1 by rw [hW1]; exact ((Below.refl _ _).alloc (Nat.le_refl _) _).drew)).trans (KeepT.grown hg1 (row_not own1 (by decide))))
    obtain ⟨x0, x1, x2, x3, x4, x5⟩ := hr1.cells
    have xf5 : w1.frozen? ⟨rb, 5, none⟩ = false := frozen_cells hr1 _
    have xf2 : w1.frozen? ⟨rb, 2, none⟩ = false := frozen_cells hr1 _
    have hfin : BeginPost w0 X rb tv i lev most bf ms ⟨ar, lev, (v1, v2, v3), L⟩ w (.returned (.int .i64 0)) ((w1.setCell ⟨rb, 5, none⟩ (.slice (some ⟨g, 0, none⟩) (ms.length + 1) cp)).setCell ⟨rb, 2, none⟩ (.int .i64 (lev + 1))) := by
      have r5 := hr1.set5 (.slice (some ⟨g, 0, none⟩) (ms.length + 1) cp)
      have kk : ∀ T, T ≠ 51 → KeepT T w1 ((w1.setCell ⟨rb, 5, none⟩ (.slice (some ⟨g, 0, none⟩) (ms.length + 1) cp)).setCell ⟨rb, 2, none⟩ (.int .i64 (lev + 1))) := fun T hT => (keepT_set (hr1.notT T hT)).trans (keepT_set (r5.notT T hT))
      have hkp : Kept X w ((w1.setCell ⟨rb, 5, none⟩ (.slice (some ⟨g, 0, none⟩) (ms.length + 1) cp)).setCell ⟨rb, 2, none⟩ (.int .i64 (lev + 1))) := fun b hb => by
        obtain ⟨cs, hc⟩ := (HX.out b hb).1
        exact ((k1.trans (kk _ (by decide))).2 b cs hc).trans hc.symm
      refine .inr ⟨HLM.out, rfl, ⟨⟨_, r5.set2 _, ?_⟩, HF.out.1.keep (k1.trans (kk _ (by decide))), fun b hb => ⟨by obtain ⟨cs, hc⟩ := (HX.out b hb).1; exact ⟨cs, (hkp b hb).trans hc⟩, (HX.out b hb).2⟩, HF.out.2, (hb1.setCell (p := ⟨rb, 5, none⟩) hrb _).setCell (p := ⟨rb, 2, none⟩) hrb _, hrb⟩, hkp⟩
      rw [List.length_append, List.length_singleton, mfC_snoc]
      exact row_keepT hown1 (kk _ (by decide))
    have HFIN := Lib.hid hfin
    rw [hW1] at hrun2
    have hzl : rb < Z.heap.size := by omega
    have hzl2 : w.heap.size < Z.heap.size := by omega
    clear hfin k1 hb1 hr1 hW1r hown1 hg1 own1 rd1 hW1 hrun hZown hZr hZb hZk hZbel hZs
    go_region
    go_wp2_with fail
    go_ret
    exact HFIN.out
end Go.Proofs.YtjmbkkpglkbppaaDoor
