/- signature: the reader's end. -/
import Derived.Test.YtjmbkkpglkbppaaDoorSgB
namespace Go.Proofs.YtjmbkkpglkbppaaDoor
open Go.RowKit
attribute [local go_sem ↓] builtin_app

/-- What end owes. -/
def EndPost (w0 : World) (X : List Nat) (rb : Nat) (tv : Value) (i most : Int) (bf : Value) (ms : List MF) (m : MF) (p : Pt) (w : World) (e : Ending) (w' : World) : Prop :=
  ∃ q : Pt, e = .returned (tyVal q.1 q.2.1 (slv q.2.2.1)) ∧ ptP q = endT m.fr (ptP p) ∧ FinT 28 w0.heap.size (X ++ acts ms) w' q.2.2.2 q.2.2.1 ∧ St w0 X rb tv most bf i m.lev ms w' ∧ Kept X w w'
theorem endT_arrow (m : MF) (p : Pt) (h : m.arrow = true) : endT m.fr (ptP p) = (4, 0, tyL ((m.L ++ [p]).map ptP)) := by
  simp [endT, MF.fr, h]
theorem endT_tuple (m : MF) (p : Pt) (h : m.arrow = false) (hl : m.L ≠ []) : endT m.fr (ptP p) = (5, 0, tyL ((m.L ++ [p]).map ptP)) := by
  simp only [endT, MF.fr, h, List.map_append, List.map_cons, List.map_nil]
  rcases hL : m.L with _ | ⟨x, r⟩
  · exact absurd hL hl
  · cases r <;> simp [tupTy]
theorem endT_one (m : MF) (p : Pt) (h : m.arrow = false) (hl : m.L = []) : endT m.fr (ptP p) = ptP p := by
  simp [endT, MF.fr, h, hl, tupTy]
/-- A type that is laid where one lay. -/
theorem put_ty {w : World} {g : Nat} {x y z : Value} (k n : Int) (u : Sl) (h0 : w.cell? ⟨g, 0, none⟩ = some x) (h1 : w.cell? ⟨g, 1, none⟩ = some y) (h2 : w.cell? ⟨g, 2, none⟩ = some z) :
    (loadVar 28 ⟨g, 0, none⟩).run Tryd.prog (((w.setCell ⟨g, 0, none⟩ (.int .i64 k)).setCell ⟨g, 1, none⟩ (.int .i64 n)).setCell ⟨g, 2, none⟩ (slv u)) = .ok (tyVal k n (slv u)) (((w.setCell ⟨g, 0, none⟩ (.int .i64 k)).setCell ⟨g, 1, none⟩ (.int .i64 n)).setCell ⟨g, 2, none⟩ (slv u)) := by
  unfold slv
  exact load_ty (u := u) (by go_simp) (by go_simp) (by unfold slv; go_simp)
set_option maxRecDepth 100000 in
set_option maxHeartbeats 4000000 in
theorem end_any (w0 w : World) (X : List Nat) (rb : Nat) (tv : Value) (i lev most : Int) (bf : Value) (ms : List MF) (m : MF) (p : Pt)
    (hs : St w0 X rb tv most bf i lev (ms ++ [m]) w) (hp : FinT 28 w0.heap.size (X ++ acts (ms ++ [m])) w p.2.2.2 p.2.2.1) (hm : ms.length ≤ 1000000) (hL : m.L.length ≤ 100) :
    Calls Tryd.prog 53 #[.pointer (some ⟨rb, 0, none⟩), tyVal p.1 p.2.1 (slv p.2.2.1)] w (EndPost w0 X rb tv i most bf ms m p w) := by
  obtain ⟨⟨av, hr, hown⟩, hf, hxs, hnd, hb, hrb⟩ := hs
  have hlt := hr.lt
  have hbs := hb.size
  obtain ⟨n, hn⟩ : ∃ n, ms.length = n := ⟨_, rfl⟩
  rw [List.length_append, List.length_singleton, mfC_snoc, hn] at hown
  rw [hn] at hm
  obtain ⟨g, cp, rfl, hg0, hg2⟩ := own_shape hown (by omega)
  have hcp : n + 1 ≤ cp := by
    obtain ⟨_, _, hv, h1, _⟩ := own_form hown
    injection hv with _ _ h3
    omega
  have hgr : g ≠ rb := fun e => hr.row_ne hown (by decide) (by rw [e]; rfl)
  have hcell : ∀ j u, (mfC m)[j]? = some u → w.cell? ⟨g, n * 3 + j, none⟩ = some u := by
    intro j u hu
    have hj : j < 3 := (List.getElem?_eq_some_iff.1 hu).1
    rw [hown.cellAt _ (by omega), List.getElem?_append_right (by rw [mfC_len, hn]; omega), mfC_len, hn]
    rw [show n * 3 + j - n * 3 = j by omega]
    exact hu
  have hownq : w.ownsRow w0.heap.size 92 3 (.slice (some ⟨g, 0, none⟩) n cp) n (ms.flatMap mfC) := own_cut hown n (by omega) (by rw [mfC_len, hn])
  obtain ⟨c0, c1, c2, c3, c4, c5⟩ := hr.cells
  obtain ⟨ar, ml, ⟨v1, v2, v3⟩, L⟩ := m
  obtain ⟨pk, pn, ⟨p1, p2, p3⟩, pf⟩ := p
  have g0 : w.cell? ⟨g, n * 3, none⟩ = some (.bool ar) := hcell 0 _ rfl
  have g1 : w.cell? ⟨g, n * 3 + 1, none⟩ = some (.int .i64 ml) := hcell 1 _ rfl
  have g2 : w.cell? ⟨g, n * 3 + 2, none⟩ = some (.slice v1 v2 v3) := hcell 2 _ rfl
  dsimp only [tyVal, slv] at hp hL ⊢
  have hz : decide ((n : Int) ≤ (cp : Int)) = true := by simp; omega
  have hz0 : (0 : Int) ≤ (n : Int) := by omega
  have hz1 : (n : Int) < (n : Int) + 1 := by omega
  have hrf : w.frozen? ⟨rb, 5, none⟩ = false := frozen_cells hr _
  have hrf2 : w.frozen? ⟨rb, 2, none⟩ = false := frozen_cells hr _
  have HR := Lib.hid hr
  have HO := Lib.hid hownq
  have HF := Lib.hid (And.intro hf hnd)
  have HXS := Lib.hid hxs
  have HB := Lib.hid hb
  have HP := Lib.hid hp
  have HN := Lib.hid hn
  clear hr hown hownq hcell hf hxs hnd hb hp hn
  go_enter Tryd.func53, Tryd.ntmps53
  go_wp2_with fail
  refine wp_world (fun Z => Z.heap.size = w.heap.size + 3 ∧ (∀ k, k < w.heap.size → Z.heap[k]? = w.heap[k]?) ∧ Z.heap[w.heap.size]? = some (Obj.cells #[.int .i64 pk, .int .i64 pn, .slice p1 p2 p3] 28) ∧ Z.heap[w.heap.size + 1]? = some (Obj.cells #[.int .i64 0, .int .i64 0, .slice none 0 0] 28) ∧ Z.heap[w.heap.size + 2]? = some (Obj.cells #[.bool ar, .int .i64 ml, .slice v1 v2 v3] 92) ∧ Below w0.heap.size w0 Z) ?_ ?_
  · refine ⟨by simp, fun k hk => ?_, ?_, ?_, ?_, ?_⟩
    · exact (Below.heap_alloc _ _ _ (by simp; omega)).trans ((Below.heap_alloc _ _ _ (by simp; omega)).trans (Below.heap_alloc _ _ _ hk))
    · exact (Below.heap_alloc _ _ _ (by simp; omega)).trans ((Below.heap_alloc _ _ _ (by simp)).trans (heap_alloc_new w _))
    · refine (Below.heap_alloc _ _ _ (by simp)).trans ?_
      have := heap_alloc_new (w.alloc (.cells #[.int .i64 pk, .int .i64 pn, .slice p1 p2 p3] 28)) (.cells #[.int .i64 0, .int .i64 0, .slice none 0 0] 28)
      rwa [World.size_alloc] at this
    · have := heap_alloc_new ((w.alloc (.cells #[.int .i64 pk, .int .i64 pn, .slice p1 p2 p3] 28)).alloc (.cells #[.int .i64 0, .int .i64 0, .slice none 0 0] 28)) (.cells #[.bool ar, .int .i64 ml, .slice v1 v2 v3] 92)
      rwa [World.size_alloc, World.size_alloc] at this
    · exact HB.out.trans ((((Below.refl _ _).alloc hbs _).alloc (by simp; omega) _).alloc (by simp; omega) _)
  rintro Y ⟨hYs, hYk, hYt, hYr, hYb, hYbel⟩
  have hYR : RdrAt Y rb tv i lev most bf (.slice (some ⟨g, 0, none⟩) (n + 1) cp) := (hYk rb hlt).trans HR.out
  obtain ⟨d0, d1, d2, d3, d4, d5⟩ := hYR.cells
  have y0 : Y.cell? ⟨w.heap.size + 2, 0, none⟩ = some (.bool ar) := cell_of_row Y _ 0 _ _ (0, 0) hYb
  have y1 : Y.cell? ⟨w.heap.size + 2, 1, none⟩ = some (.int .i64 ml) := cell_of_row Y _ 1 _ _ (0, 0) hYb
  have y2 : Y.cell? ⟨w.heap.size + 2, 2, none⟩ = some (.slice v1 v2 v3) := cell_of_row Y _ 2 _ _ (0, 0) hYb
  have hYf5 : Y.frozen? ⟨rb, 5, none⟩ = false := frozen_cells hYR _
  have hYf2 : Y.frozen? ⟨rb, 2, none⟩ = false := frozen_cells hYR _
  have t0 : Y.cell? ⟨w.heap.size, 0, none⟩ = some (.int .i64 pk) := cell_of_row Y _ 0 _ _ (0, 0) hYt
  have t1 : Y.cell? ⟨w.heap.size, 1, none⟩ = some (.int .i64 pn) := cell_of_row Y _ 1 _ _ (0, 0) hYt
  have t2 : Y.cell? ⟨w.heap.size, 2, none⟩ = some (.slice p1 p2 p3) := cell_of_row Y _ 2 _ _ (0, 0) hYt
  -- behind the two stores; the parts, with the new one
  obtain ⟨V, hV⟩ : ∃ V, (Y.setCell ⟨rb, 5, none⟩ (.slice (some ⟨g, 0, none⟩) n cp)).setCell ⟨rb, 2, none⟩ (.int .i64 ml) = V := ⟨_, rfl⟩
  have hVs : V.heap.size = w.heap.size + 3 := by rw [← hV, ← hYs]; simp [World.setCell]
  have hVk : ∀ k, k ≠ rb → V.heap[k]? = Y.heap[k]? := fun k hk => by
    rw [← hV]
    exact (Below.heap_setCell _ _ _ _ (by simpa using hk)).trans (Below.heap_setCell _ _ _ _ (by simpa using hk))
  have hVR : RdrAt V rb tv i ml most bf (.slice (some ⟨g, 0, none⟩) n cp) := by rw [← hV]; exact (hYR.set5 (.slice (some ⟨g, 0, none⟩) n cp)).set2 ml
  have hVb : Below w0.heap.size w0 V := by rw [← hV]; exact (hYbel.setCell (p := ⟨rb, 5, none⟩) hrb _).setCell (p := ⟨rb, 2, none⟩) hrb _
  obtain ⟨W1, hW1⟩ : ∃ W1, (V.alloc (.cells #[.int .i64 pk, .int .i64 pn, .slice p1 p2 p3] 28)).drew = W1 := ⟨_, rfl⟩
  have hb1 : Below V.heap.size V W1 := by rw [← hW1]; exact ((Below.refl _ _).alloc (Nat.le_refl _) _).drew
  have hs1 : W1.heap.size = w.heap.size + 4 := by rw [← hW1]; show (V.alloc _).heap.size = _; rw [World.size_alloc, hVs]
  have kw1 : ∀ T, T ≠ 51 → KeepT T w W1 := fun T hT => keepT_other (rb := rb) (by omega) (fun k hk hne => (hb1.block k (by omega)).trans ((hVk k hne).trans (hYk k hk))) (HR.out.notT T hT)
  have rowm := HF.out.1.row ⟨ar, ml, (v1, v2, v3), L⟩ (List.mem_append_right _ (List.mem_singleton.2 rfl))
  have own1 : W1.ownsRow w0.heap.size 28 3 (.slice v1 v2 v3) L.length (L.flatMap ptC) := row_keepT rowm (kw1 _ (by decide))
  have hownlt : ∀ b, (slv (v1, v2, v3)).ownBlock = some b → b < w.heap.size := fun b hbb => (rowm.lt b hbb).2
  have rd1 : Rd W1 3 (.slice (some ⟨V.heap.size, 0, none⟩) 1 1) 1 (ptC (pk, pn, (p1, p2, p3), pf)) := by
    rw [← hW1]; exact rd_new V [.int .i64 pk, .int .i64 pn, .slice p1 p2 p3] 28 3 1 rfl (by unfold maxLen; omega)
  obtain ⟨i0, hi0, hz0', hz1', hz2'⟩ := info_parts tyInfo
  obtain ⟨v', w1, hrun, hown1, hg1, hat⟩ := run_append_rd (P := Tryd.prog) W1 w0.heap.size 26 26 28 i0 _ 3 40 Tryd.underlying26 hi0 hz0' hz1' hz2' rfl (by omega) (.slice v1 v2 v3) _ _ own1 _ 1 _ rd1 (by simp [ptC, slv, Value.oneCell']) (by unfold maxLen; omega) (by omega) (by omega)
  obtain ⟨g', cp', rfl, hg0', hg2'⟩ := own_shape hown1 (by omega)
  have hrun2 : (app_ #[26, 26] 26 #[.slice v1 v2 v3, .slice (some ⟨V.heap.size, 0, none⟩) 1 1]).run Tryd.prog W1 = .ok (.slice (some ⟨g', 0, none⟩) (L.length + 1) cp') w1 := hrun
  have hk1 : ∀ k, w.heap.size ≤ k → k < w.heap.size + 3 → w1.heap[k]? = Y.heap[k]? := fun k h1 h2 => by
    rw [hg1.block k (by omega) (fun e => by have := hownlt k e.symm; omega), hb1.block k (by omega), hVk k (by omega)]
  have hsz1 : w.heap.size + 4 ≤ w1.heap.size := by have := hg1.size; omega
  have hr1 : RdrAt w1 rb tv i ml most bf (.slice (some ⟨g, 0, none⟩) n cp) := (hg1.block rb (by omega) (fun e => (hVR.below hb1).row_ne own1 (by decide) e.symm)).trans (hVR.below hb1)
  have hbel1 : Below w0.heap.size w0 w1 := (hVb.trans (hb1.mono (by omega))).grown hg1 (by omega) (fun b hb => (own1.lt b hb).1)
  -- what hangs on what
  have hbx : ∀ b ∈ [w.heap.size, w.heap.size + 1, w.heap.size + 2], w.heap.size ≤ b ∧ b < w.heap.size + 3 := by intro b hb; simp only [List.mem_cons, List.not_mem_nil, or_false] at hb; omega
  have hf1 := HF.out.1.aside (X := [w.heap.size, w.heap.size + 1, w.heap.size + 2]) (kw1 _ (by decide)) (fun b hb => (hbx b hb).1)
  have hp1 := HP.out.aside (X := [w.heap.size, w.heap.size + 1, w.heap.size + 2]) (kw1 _ (by decide)) (fun b hb => (hbx b hb).1)
  rw [← List.append_assoc] at hf1 hp1
  have hput := FrI.put (X := [w.heap.size, w.heap.size + 1, w.heap.size + 2] ++ X) (p := (pk, pn, (p1, p2, p3), pf)) (v' := (some ⟨g', 0, none⟩, L.length + 1, cp')) hf1 HF.out.2
    (by intro b hb; rcases List.mem_append.1 hb with hb | hb; · have := hbx b hb; omega
        · obtain ⟨⟨cs, hc⟩, _⟩ := HXS.out b hb; have := (Array.getElem?_eq_some_iff.1 hc).1; omega) hown1 hg1 hat hp1
  have htake := hput.1.take hput.2 (by
    intro b hb hbX
    simp only [slv] at hb
    rcases List.mem_append.1 hbX with hbX | hbX
    · have := hbx b hbX
      rcases hat with e | e
      · rw [e] at hb; have := hownlt b hb; omega
      · rw [e] at hb; injection hb with hb; omega
    · have := HXS.out b hbX
      rcases hat with e | e
      · rw [e] at hb
        exact this.2 (List.mem_flatMap.2 ⟨_, List.mem_append_right _ (List.mem_singleton.2 rfl), by simp only [actB, Option.mem_toList]; exact hb⟩)
      · rw [e] at hb; injection hb with hb; obtain ⟨⟨cs, hc⟩, _⟩ := this; have := (Array.getElem?_eq_some_iff.1 hc).1; omega)
  have hXm : ∀ m ∈ ms, ∀ b, (slv m.v).ownBlock = some b → b ∉ [w.heap.size, w.heap.size + 1, w.heap.size + 2] := by
    intro m hm b hb hbX
    have := act_lt HF.out.1 b (List.mem_flatMap.2 ⟨m, List.mem_append_left _ hm, by simp only [actB, Option.mem_toList]; exact hb⟩)
    have := hbx b hbX
    omega
  have hPfin : FinT 28 w0.heap.size ([w.heap.size, w.heap.size + 1, w.heap.size + 2] ++ (X ++ acts ms)) w1 pf (p1, p2, p3) := by
    have := (hput.1.fin _ (List.mem_append_right _ (List.mem_singleton.2 rfl)) (pk, pn, (p1, p2, p3), pf) (by simp)).less (A' := ([w.heap.size, w.heap.size + 1, w.heap.size + 2] ++ X) ++ acts ms) (by
      intro b hb
      rcases List.mem_append.1 hb with hb | hb
      · exact List.mem_append_left _ hb
      · exact List.mem_append_right _ (by rw [acts_app]; exact List.mem_append_left _ hb))
    rw [List.append_assoc] at this
    exact this
  rw [List.append_assoc] at htake
  have hxk : ∀ b ∈ X, w1.heap[b]? = w.heap[b]? ∧ b < w.heap.size := by
    intro b hb
    obtain ⟨⟨cs, hc⟩, hna⟩ := HXS.out b hb
    have hbl := (Array.getElem?_eq_some_iff.1 hc).1
    have hbr : b ≠ rb := by
      rintro rfl
      exact HR.out.notT _ (by decide) cs hc
    refine ⟨(hg1.block b (by omega) (fun e => hna ?_)).trans ((hb1.block b (by omega)).trans ((hVk b hbr).trans (hYk b hbl))), hbl⟩
    exact List.mem_flatMap.2 ⟨_, List.mem_append_right _ (List.mem_singleton.2 rfl), by simp only [actB, Option.mem_toList]; exact e.symm⟩
  have hxs2 : ∀ b ∈ X, b ∉ acts ms := fun b hb hb2 => (HXS.out b hb).2 (by rw [acts_app]; exact List.mem_append_left _ hb2)
  -- behind the answer's three stores
  have hend : ∀ (q : Pt), ptP q = endT (MF.fr ⟨ar, ml, (v1, v2, v3), L⟩) (ptP (pk, pn, (p1, p2, p3), pf)) → FinT 28 w0.heap.size ([w.heap.size, w.heap.size + 1, w.heap.size + 2] ++ (X ++ acts ms)) w1 q.2.2.2 q.2.2.1 →
      EndPost w0 X rb tv i most bf ms ⟨ar, ml, (v1, v2, v3), L⟩ (pk, pn, (p1, p2, p3), pf) w (.returned (tyVal q.1 q.2.1 (slv q.2.2.1))) (((w1.setCell ⟨w.heap.size + 1, 0, none⟩ (.int .i64 q.1)).setCell ⟨w.heap.size + 1, 1, none⟩ (.int .i64 q.2.1)).setCell ⟨w.heap.size + 1, 2, none⟩ (slv q.2.2.1)) := by
    intro q hq hfq
    have hss : (((w1.setCell ⟨w.heap.size + 1, 0, none⟩ (.int .i64 q.1)).setCell ⟨w.heap.size + 1, 1, none⟩ (.int .i64 q.2.1)).setCell ⟨w.heap.size + 1, 2, none⟩ (slv q.2.2.1)).heap.size = w1.heap.size := by simp [World.setCell]
    have hne : ∀ k, k ≠ w.heap.size + 1 → (((w1.setCell ⟨w.heap.size + 1, 0, none⟩ (.int .i64 q.1)).setCell ⟨w.heap.size + 1, 1, none⟩ (.int .i64 q.2.1)).setCell ⟨w.heap.size + 1, 2, none⟩ (slv q.2.2.1)).heap[k]? = w1.heap[k]? := fun k hk =>
      (Below.heap_setCell _ _ _ _ (by simpa using hk)).trans ((Below.heap_setCell _ _ _ _ (by simpa using hk)).trans (Below.heap_setCell _ _ _ _ (by simpa using hk)))
    have hbk : ∀ (b : Nat) (cs : Array Value), b ∉ [w.heap.size, w.heap.size + 1, w.heap.size + 2] → w1.heap[b]? = some (Obj.cells cs 28) → (((w1.setCell ⟨w.heap.size + 1, 0, none⟩ (.int .i64 q.1)).setCell ⟨w.heap.size + 1, 1, none⟩ (.int .i64 q.2.1)).setCell ⟨w.heap.size + 1, 2, none⟩ (slv q.2.2.1)).heap[b]? = some (Obj.cells cs 28) := by
      intro b cs hbX hc
      simp only [List.mem_cons, List.not_mem_nil, or_false, not_or] at hbX
      exact (hne b hbX.2.1).trans hc
    have hkp : Kept X w (((w1.setCell ⟨w.heap.size + 1, 0, none⟩ (.int .i64 q.1)).setCell ⟨w.heap.size + 1, 1, none⟩ (.int .i64 q.2.1)).setCell ⟨w.heap.size + 1, 2, none⟩ (slv q.2.2.1)) := fun b hb => (hne b (by have := (hxk b hb).2; omega)).trans (hxk b hb).1
    refine ⟨q, rfl, hq, hfq.back (by omega) hbk, ⟨⟨_, (hne rb (by omega)).trans hr1, ?_⟩, htake.1.back (by omega) hbk hXm, fun b hb => ⟨by obtain ⟨cs, hc⟩ := (HXS.out b hb).1; exact ⟨cs, (hkp b hb).trans hc⟩, hxs2 b hb⟩, htake.2.1, below_set3 hbel1 _ (by omega) _ _ _, hrb⟩, hkp⟩
    have hro : w1.ownsRow w0.heap.size 92 3 (.slice (some ⟨g, 0, none⟩) n cp) ms.length (ms.flatMap mfC) := by
      rw [HN.out]
      exact (row_keepT HO.out (kw1 _ (by decide))).kept hg1 (by
        refine .inr fun e2 => ?_
        rcases e : (Value.slice v1 v2 v3).ownBlock with _ | b
        · rw [e] at e2; cases e2
        · rw [e] at e2
          obtain rfl : g = b := by injection e2
          obtain ⟨cs, hcs⟩ : ∃ cs, W1.heap[g]? = some (Obj.cells cs 28) := by
            rcases own1.2 with ⟨h, _⟩ | ⟨g2, cap, cur, h, _, hh, _⟩
            · rw [h] at e; cases e
            · rw [h] at e; injection e with e; subst e; exact ⟨cur, hh⟩
          exact row_not (row_keepT HO.out (kw1 _ (by decide))) (by decide) g rfl cs hcs)
    exact row_keepT hro (keepT_other (rb := w.heap.size + 1) (by omega) (fun k _ hk => hne k hk) (by
      intro cs hc
      rw [hk1 (w.heap.size + 1) (by omega) (by omega), hYr] at hc
      injection hc with hc
      injection hc with _ h2 _
      exact absurd h2 (by decide)))
  have r0 : w1.cell? ⟨w.heap.size + 1, 0, none⟩ = some (.int .i64 0) := cell_of_row w1 _ 0 _ _ (0, 0) ((hk1 _ (by omega) (by omega)).trans hYr)
  have r1 : w1.cell? ⟨w.heap.size + 1, 1, none⟩ = some (.int .i64 0) := cell_of_row w1 _ 1 _ _ (0, 0) ((hk1 _ (by omega) (by omega)).trans hYr)
  have r2 : w1.cell? ⟨w.heap.size + 1, 2, none⟩ = some (.slice none 0 0) := cell_of_row w1 _ 2 _ _ (0, 0) ((hk1 _ (by omega) (by omega)).trans hYr)
  have rf : ∀ o, w1.frozen? ⟨w.heap.size + 1, o, none⟩ = false := fun o => frozen_cells ((hk1 _ (by omega) (by omega)).trans hYr) o
  have rf0 := rf 0
  have rf1 := rf 1
  have rf2 := rf 2
  have s0 : w1.cell? ⟨w.heap.size, 0, none⟩ = some (.int .i64 pk) := cell_of_row w1 _ 0 _ _ (0, 0) ((hk1 _ (by omega) (by omega)).trans hYt)
  have s1 : w1.cell? ⟨w.heap.size, 1, none⟩ = some (.int .i64 pn) := cell_of_row w1 _ 1 _ _ (0, 0) ((hk1 _ (by omega) (by omega)).trans hYt)
  have s2 : w1.cell? ⟨w.heap.size, 2, none⟩ = some (.slice p1 p2 p3) := cell_of_row w1 _ 2 _ _ (0, 0) ((hk1 _ (by omega) (by omega)).trans hYt)
  have b0 : w1.cell? ⟨w.heap.size + 2, 0, none⟩ = some (.bool ar) := cell_of_row w1 _ 0 _ _ (0, 0) ((hk1 _ (by omega) (by omega)).trans hYb)
  have HE := Lib.hid hend
  have HT := Lib.hid (And.intro htake.2.2 hPfin)
  have hVY : V.heap.size = Y.heap.size := by omega
  rw [← hW1, hVY] at hrun2
  rw [← hV] at hrun2
  have hYl : rb < Y.heap.size := by omega
  have hYl2 : w.heap.size + 2 < Y.heap.size := by omega
  have hYl3 : w.heap.size + 1 < Y.heap.size := by omega
  have hYl4 : w.heap.size < Y.heap.size := by omega
  clear rf hVY hend hXm hxs2 hxk hbx hf1 hp1 hPfin htake hput hbel1 hr1 hk1 hrun hown1 hg1 hat rd1 hownlt own1 rowm kw1 hs1 hb1 hW1 hVb hVR hVk hVs hV hYk hYt hYr hYb hYbel hYR hYs c0 c1 c2 c3 c4 c5 hrf hrf2 g0 g1 g2
  obtain ⟨q, hq⟩ : ∃ q, L.length = q := ⟨_, rfl⟩
  rw [hq] at hrun2 hL
  have HQ := Lib.hid hq
  clear hq
  have HRR := Lib.hid (And.intro r0 (And.intro r1 r2))
  cases ar with
  | true =>
    have hx := HE.out (4, 0, (some ⟨g', 0, none⟩, q + 1, cp'), tyL ((L ++ [(pk, pn, (p1, p2, p3), pf)]).map ptP)) (by rw [endT_arrow _ _ rfl]; rfl) (by rw [← HQ.out]; exact HT.out.1)
    dsimp only [slv] at hx
    have HX := Lib.hid hx
    clear hx
    go_region
    go_wp2_with fail
    exact bodyPost_ret (results_box rfl _ _ _ _ rfl (put_ty 4 0 (some ⟨g', 0, none⟩, q + 1, cp') HRR.out.1 HRR.out.2.1 HRR.out.2.2)) rfl HX.out
  | false =>
    rcases Nat.eq_zero_or_pos q with h0 | h0
    · subst h0
      have hx := HE.out (pk, pn, (p1, p2, p3), pf) (by rw [endT_one _ _ rfl (List.eq_nil_of_length_eq_zero HQ.out)]) HT.out.2
      dsimp only [slv] at hx
      have HX := Lib.hid hx
      clear hx
      go_region
      go_wp2_with fail
      exact bodyPost_ret (results_box rfl _ _ _ _ rfl (put_ty pk pn (p1, p2, p3) HRR.out.1 HRR.out.2.1 HRR.out.2.2)) rfl HX.out
    · have f1 : decide ((1 : Int) < (q : Int) + 1) = true := decide_eq_true (by omega)
      have f2 : (0 : Int) < (q : Int) := by omega
      have hx := HE.out (5, 0, (some ⟨g', 0, none⟩, q + 1, cp'), tyL ((L ++ [(pk, pn, (p1, p2, p3), pf)]).map ptP)) (by rw [endT_tuple _ _ rfl (by intro e; simp only at e; have := HQ.out; rw [e] at this; simp at this; omega)]; rfl) (by rw [← HQ.out]; exact HT.out.1)
      dsimp only [slv] at hx
      have HX := Lib.hid hx
      clear hx
      go_region
      go_wp2_with fail
      exact bodyPost_ret (results_box rfl _ _ _ _ rfl (put_ty 5 0 (some ⟨g', 0, none⟩, q + 1, cp') HRR.out.1 HRR.out.2.1 HRR.out.2.2)) rfl HX.out
end Go.Proofs.YtjmbkkpglkbppaaDoor
