/- Texts of one proof, one behind the other. -/
import Derived.Test.YtbdckmnppeglfaaMgGraphAdds25
import Derived.Test.YtbdckmnppeglfaaMgGraphAdds2
import Derived.Test.YtbdckmnppeglfaaMgGraphAdds27
import Derived.Test.YtbdckmnppeglfaaMgGraphAdds24
import Derived.Test.YtbdckmnppeglfaaMgGraphAdds28
/- graph's laws: is there more than is asked of? -/
namespace Go.Proofs.Ytbdckmnppeglfaa
open Go.RowKit Go.Shelf
set_option maxRecDepth 100000
set_option maxHeartbeats 2000000 in
theorem great11_any (w : World) (F : Fo) (v : Value) (hF : TyV w.heap.size w F v) :
    Calls Try.prog 10 #[v] w fun e w' => ∃ b, e = .returned (.bool b) ∧ (b = false → F.len ≤ 30 ∧ F.size ≤ 400) ∧ Below w.heap.size w w' := by
  obtain ⟨A, c, rfl⟩ := hF.slice
  have hlm : F.len ≤ 9223372036854775807 := by
    rcases Nat.eq_zero_or_pos F.len with h0 | h0
    · omega
    · obtain ⟨_, _, cap, _, h1, h2, _⟩ := hF.form h0
      unfold maxLen at h2
      omega
  have H := Lib.hid hF
  clear hF
  go_enter Try.func10, Try.ntmps10
  go_wp2_with fail
  go_loopw [3, 4] (fun t3 t4 wr => ∃ j : Nat, j ≤ F.len ∧ j ≤ 40 ∧ t4 = .int .i64 j ∧ t3 = .int .i64 ((F.take j).size : Nat) ∧ (F.take j).size ≤ j * 300 ∧ Below w.heap.size w wr) (fun _ t _ => F.len - (intOf t).toNat)
  case atStart => exact ⟨0, Nat.zero_le _, by omega, rfl, by rw [Fo.take_zero]; rfl, by rw [Fo.take_zero]; simp [Fo.size], Below.refl _ _⟩
  case round =>
    obtain ⟨j, hj, hj4, rfl, rfl, hsz, hb⟩ := hrel
    have HB := Lib.hid hb
    have hz := hb.size
    obtain ⟨s, hs⟩ : ∃ s, (F.take j).size = s := ⟨_, rfl⟩
    rw [hs] at hsz
    have HS := Lib.hid hs
    clear hb hs
    rw [HS.out]
    by_cases hjl : j < F.len
    · by_cases hj40 : j < 40
      · obtain ⟨b, off, cap, hv, _, _, hlt, hC⟩ := H.out.form (by omega)
        injection hv with hA _ hcc
        subst hA; subst hcc
        obtain ⟨d0, d1, d2, hch⟩ := tyC_at hC j hjl
        have c0 := (HB.out.cell (p := ⟨b, off + j * 3, none⟩) hlt).trans d0
        have c1 := (HB.out.cell (p := ⟨b, off + j * 3 + 1, none⟩) hlt).trans d1
        have c2 := (HB.out.cell (p := ⟨b, off + j * 3 + 2, none⟩) hlt).trans d2
        have hch' : TyV wr.heap.size wr (F.at_ j).2.2.2 (slv (F.at_ j).2.2.1) := hch.keep hz fun b off hb' => HB.out.cell (p := ⟨b, off, none⟩) hb'
        have hst := F.size_take_step j hjl
        rw [HS.out] at hst
        clear d0 d1 d2 hC hch
        have hgr := great_any (F.at_ j).2.2.2 (F.at_ j).1 (F.at_ j).2.1 (slv (F.at_ j).2.2.1) wr hch'
        generalize F.at_ j = p at *
        obtain ⟨pk, pn, ⟨p1, p2, p3⟩, pf⟩ := p
        dsimp only [slv] at c0 c1 c2 hgr hch' hst
        obtain ⟨gr, hgr2⟩ : ∃ gr, (!(decide (1 + pf.size ≤ 300) && decide (1 + pf.depth ≤ 40))) = gr := ⟨_, rfl⟩
        rw [hgr2] at hgr
        unfold tyVal at hgr
        have HGR := Lib.hid hgr
        have HG2 := Lib.hid hgr2
        have HST := Lib.hid hst
        have HCH := Lib.hid hch'
        clear hgr hgr2 hst hch'
        have f1 : decide ((j : Int) < 40) = true := by simp; omega
        go_wp2_with fail
        refine HGR.out.mono ?_
        rintro e w2 ⟨rfl, hb2⟩
        have y0 : w2.cell? ⟨b, off + j * 3, none⟩ = some (.int .i64 pk) := (hb2.cell (p := ⟨b, off + j * 3, none⟩) (by simp only; omega)).trans c0
        have y1 : w2.cell? ⟨b, off + j * 3 + 1, none⟩ = some (.int .i64 pn) := (hb2.cell (p := ⟨b, off + j * 3 + 1, none⟩) (by simp only; omega)).trans c1
        have y2 : w2.cell? ⟨b, off + j * 3 + 2, none⟩ = some (.slice p1 p2 p3) := (hb2.cell (p := ⟨b, off + j * 3 + 2, none⟩) (by simp only; omega)).trans c2
        have HB2 := Lib.hid (HB.out.trans (hb2.mono hz))
        cases gr
        · have hsp : pf.size + 1 ≤ 300 := by
            have h := HG2.out
            simp only [Bool.not_eq_false', Bool.and_eq_true, decide_eq_true_eq] at h
            omega
          have hrs := rsize_any _ pf pk pn (.slice p1 p2 p3) w2 (Nat.lt_succ_self _) (by omega) ((HCH.out.below hb2).keep hb2.size fun _ _ _ => rfl)
          obtain ⟨q, hq⟩ : ∃ q : Nat, q = 1 + pf.size := ⟨_, rfl⟩
          rw [show (1 + (pf.size : Int)) = (q : Int) by omega] at hrs
          unfold tyVal at hrs
          have HRS := Lib.hid hrs
          have HQ := Lib.hid hq
          have hq3 : q ≤ 300 := by omega
          clear c0 c1 c2 hb2 hrs hsp hq
          go_wp2_with fail
          refine HRS.out.mono ?_
          rintro e w3 ⟨rfl, hb3⟩
          have HB3 := Lib.hid (HB2.out.trans (hb3.mono HB2.out.size))
          clear y0 y1 y2 hb3
          go_wp2_with fail
          go_roundw
          case rel =>
            have h := HST.out
            rw [← HQ.out] at h
            exact ⟨j + 1, by omega, by omega, by go_num, by rw [h]; go_num, by omega, HB3.out⟩
          case measure => simp [intOf]; omega
        · clear c0 c1 c2 hb2 y0 y1 y2
          go_wp2_with fail
          go_ret
          exact ⟨_, rfl, (fun h => by cases h), HB2.out⟩
      · have f1 : decide ((j : Int) < 40) = false := by simp; omega
        have f2 : decide ((30 : Int) < (F.len : Int)) = true := by simp; omega
        go_wp2_with fail
        go_ret
        exact ⟨_, rfl, (fun h => by cases h), HB.out⟩
    · obtain rfl : j = F.len := by omega
      have hs2 : F.size = s := by rw [← HS.out, Fo.take_len]
      have HS2 := Lib.hid hs2
      clear hs2
      by_cases h30 : 30 < F.len
      · have f2 : decide ((30 : Int) < (F.len : Int)) = true := by simp; omega
        go_wp2_with fail
        go_ret
        exact ⟨_, rfl, (fun h => by cases h), HB.out⟩
      · have f2 : decide ((30 : Int) < (F.len : Int)) = false := by simp; omega
        obtain ⟨bb, hbb⟩ : ∃ bb, decide ((400 : Int) < (s : Int)) = bb := ⟨_, rfl⟩
        have HBB := Lib.hid hbb
        go_wp2_with fail
        go_ret
        refine ⟨bb, rfl, fun h => ⟨by omega, ?_⟩, HB.out⟩
        have h1 := HBB.out
        rw [h] at h1
        have h2 : ¬ (400 : Int) < (s : Int) := of_decide_eq_false h1
        rw [HS2.out]
        omega
end Go.Proofs.Ytbdckmnppeglfaa
/- graph's laws: a graph, and the document's, of the same types: what stands. -/
namespace Go.Proofs.Ytbdckmnppeglfaa
open Go.RowKit Go.Shelf
set_option maxRecDepth 100000
/-- One type more: the nodes, and those that were asked for. -/
def bOne (s : List Rn × List Nat) (k n : Int) (u : Sl) (ps : Fo) : List Rn × List Nat :=
  if allAlone (Fo.cons k n u ps .nil).pre then ((radd1 s.1 k n u ps).1, s.2 ++ [(radd1 s.1 k n u ps).2]) else s
def bAll (s : List Rn × List Nat) : Fo → List Rn × List Nat
  | .nil => s
  | .cons k n u ps r => bAll (bOne s k n u ps) r
theorem bAll_app (f g : Fo) : ∀ s, bAll s (f.app g) = bAll (bAll s f) g := by
  induction f with
  | nil => intro s; rfl
  | cons k n u ps r _ ih => intro s; simp only [Fo.app, bAll, ih]
theorem bAll_step (F : Fo) (j : Nat) (hj : j < F.len) (s : List Rn × List Nat) : bAll s (F.take (j + 1)) = bOne (bAll s (F.take j)) (F.at_ j).1 (F.at_ j).2.1 (F.at_ j).2.2.1 (F.at_ j).2.2.2 := by
  rw [F.take_step j hj, bAll_app]
  rfl
theorem radd1_len (R : List Rn) (k n : Int) (u : Sl) (ps : Fo) : (radd1 R k n u ps).1.length ≤ R.length + (1 + ps.size) := by
  have h := (radd_len (.cons k n u ps .nil) R).1
  rw [radd_cons, radd_nil] at h
  simpa [Fo.size] using h
theorem bOne_len (s : List Rn × List Nat) (k n : Int) (u : Sl) (ps : Fo) : (bOne s k n u ps).1.length ≤ s.1.length + (1 + ps.size) ∧ (bOne s k n u ps).2.length ≤ s.2.length + 1 := by
  unfold bOne
  split
  · exact ⟨radd1_len _ _ _ _ _, by simp⟩
  · omega
theorem bAll_len (F : Fo) : ∀ s, (bAll s F).1.length ≤ s.1.length + F.size ∧ (bAll s F).2.length ≤ s.2.length + F.len := by
  induction F with
  | nil => intro s; simp [bAll, Fo.size, Fo.len]
  | cons k n u ps r _ ih =>
    intro s
    have h1 := bOne_len s k n u ps
    have h2 := ih (bOne s k n u ps)
    simp only [bAll, Fo.size, Fo.len]
    omega
theorem radd1_G (R : List Rn) (k n : Int) (u : Sl) (ps : Fo) (hG : GI (R.map rG)) (hv : Vok (Fo.cons k n u ps .nil)) : (radd1 R k n u ps).1.map rG = (gadd1 (R.map rG) k n ps).1 ∧ (radd1 R k n u ps).2 = (gadd1 (R.map rG) k n ps).2 ∧ GI ((radd1 R k n u ps).1.map rG) := by
  have h := radd_G (Fo.cons k n u ps .nil) R hG hv
  have hok := gadd_ok (Fo.cons k n u ps .nil) (R.map rG) hG hv
  rw [radd_cons, radd_nil, gadd_cons, gadd_nil] at h
  obtain ⟨h1, h2⟩ := h
  dsimp only at h1 h2
  injection h2 with h2 _
  refine ⟨h1, h2, ?_⟩
  rw [h1]
  have h3 := hok.ok
  rw [gadd_cons, gadd_nil] at h3
  exact h3
theorem bOne_GI (s : List Rn × List Nat) (k n : Int) (u : Sl) (ps : Fo) (hG : GI (s.1.map rG)) (hl : LenOk (Fo.cons k n u ps .nil)) : GI ((bOne s k n u ps).1.map rG) := by
  unfold bOne
  split
  · rename_i h
    exact (radd1_G s.1 k n u ps hG (vok_of h hl)).2.2
  · exact hG
structure BoI (w : World) (BT : Nat) (W : World) (g mb : Nat) (vg vm va : Value) (L : List Nd) (M : List Rm) (R : List Rn) (A : List Nat) : Prop where
  graph : GrM w.heap.size W g vg mb L (R.map rG)
  model : RgM (fun b => b ≠ g ∧ b ≠ mb ∧ vg.ownBlock ≠ some b ∧ va.ownBlock ≠ some b) BT W vm M
  eqR : M1 M = R
  row : W.ownsRow w.heap.size 3 1 va A.length (nums A)
  apart : NoP va.ownBlock L
  below : Below w.heap.size w W
theorem BoI.keep {w : World} {BT : Nat} {W W' : World} {g mb : Nat} {vg vm va : Value} {L : List Nd} {M : List Rm} {R : List Rn} {A : List Nat} (h : BoI w BT W g mb vg vm va L M R A) (hT : BT ≤ w.heap.size) (hb : Below W.heap.size W W') : BoI w BT W' g mb vg vm va L M R A :=
  ⟨h.graph.below hb, h.model.below (Nat.le_trans hT h.below.size) hb, h.eqR, own_below h.row hb, h.apart, h.below.trans (hb.mono h.below.size)⟩
theorem BoI.start {w W : World} {BT : Nat} {g mb : Nat} (hG : GrM w.heap.size W g (.slice none 0 0) mb [] []) (hb : Below w.heap.size w W) : BoI w BT W g mb (.slice none 0 0) (.slice none 0 0) (.slice none 0 0) [] [] [] [] :=
  ⟨hG, ⟨⟨⟨rfl, .inl ⟨rfl, _, _, rfl⟩⟩, fun h => absurd h (Nat.lt_irrefl 0)⟩, (fun x hx => by cases hx)⟩, rfl, World.ownsRow_nil _ _ _ _, (fun x hx => by cases hx), hb⟩
/-- The graph has a type more. -/
theorem BoI.added {w : World} {BT : Nat} {W W2 W3 : World} {g mb : Nat} {vg vg' vm va : Value} {L : List Nd} {M : List Rm} {R : List Rn} {A : List Nat} (h : BoI w BT W g mb vg vm va L M R A) (hT : BT ≤ w.heap.size)
    (hc : Chg W W2 g mb vg vg') (hge : w.heap.size ≤ g ∧ w.heap.size ≤ mb) (hb3 : Below W2.heap.size W2 W3) :
    RgM (fun b => b ≠ g ∧ b ≠ mb ∧ vg'.ownBlock ≠ some b ∧ va.ownBlock ≠ some b) BT W3 vm M ∧ W3.ownsRow w.heap.size 3 1 va A.length (nums A) ∧ Below w.heap.size w W3 := by
  have hvg : ∀ b, vg.ownBlock = some b → w.heap.size ≤ b := fun b hb => (h.graph.row.lt b hb).1
  have hbl : Below w.heap.size w W2 := ⟨hc.os.trans h.below.os, hc.tape.trans h.below.tape, hc.output.trans h.below.output, Nat.le_trans h.below.size hc.size, fun b hb => (hc.block b (Nat.lt_of_lt_of_le hb h.below.size) (by omega) (by omega) (fun e => by have := hvg b e; omega)).trans (h.below.block b hb)⟩
  have h2 : RgM (fun b => b ≠ g ∧ b ≠ mb ∧ vg'.ownBlock ≠ some b ∧ va.ownBlock ≠ some b) BT W2 vm M := by
    refine ((h.model.imp fun b hlt hD => (⟨hD, hlt⟩ : (b ≠ g ∧ b ≠ mb ∧ vg.ownBlock ≠ some b ∧ va.ownBlock ≠ some b) ∧ b < W.heap.size)).to ⟨hc.os, hc.tape, hc.output, hc.size, fun b hb => hc.block b (by have := h.below.size; omega) (by omega) (by omega) (fun e => by have := hvg b e; omega)⟩ hc.size fun b hD hlt => hc.block b hlt hD.1.1 hD.1.2.1 hD.1.2.2.1).imp fun b _ hD => ⟨hD.1.1, hD.1.2.1, ?_, hD.1.2.2.2⟩
    rcases hc.at_ with e | ⟨b', e, hb'⟩
    · rw [e]; exact hD.1.2.2.1
    · rw [e]; intro e2; injection e2 with e2; have := hD.2; omega
  have h3 : W2.ownsRow w.heap.size 3 1 va A.length (nums A) := by
    refine ⟨h.row.1, ?_⟩
    rcases h.row.2 with h' | ⟨b, cap, cur, hv, hb, hh, hr⟩
    · exact .inl h'
    · have hmo : ∃ es ck, W.heap[mb]? = some (Obj.map es ck) := by obtain ⟨_, _, _, ⟨es, ck, h, _⟩, _⟩ := h.graph.vars; exact ⟨es, ck, h⟩
      refine .inr ⟨b, cap, cur, hv, hb, (hc.block b (Array.getElem?_eq_some_iff.1 hh).1 (fun e => ?_) (fun e => ?_) (own_ne h.graph.row hh fun cs e => by injection e with _ e; revert e; decide)).trans hh, hr⟩
      · subst e; rw [h.graph.cell] at hh; injection hh with hh; injection hh with _ hh; revert hh; decide
      · subst e; obtain ⟨_, _, h'⟩ := hmo; rw [h'] at hh; cases hh
  exact ⟨h2.below (Nat.le_trans hT hbl.size) hb3, own_below h3 hb3, hbl.trans (hb3.mono hbl.size)⟩
/-- The document's graph, too; the node is put behind the others. -/
theorem BoI.fin {w : World} {BT : Nat} {W W2 W4 : World} {g mb : Nat} {vg vg' vm vm4 va : Value} {L E : List Nd} {M M4 : List Rm} {R R4 : List Rn} {A : List Nat} (h : BoI w BT W g mb vg vm va L M R A) (hT : BT ≤ w.heap.size) (hA : A.length ≤ 1000000)
    (hG2 : GrM w.heap.size W2 g vg' mb (L ++ E) (R4.map rG)) (hE : ∀ x ∈ E, ∀ b, (slv x.2.2.2).ownBlock = some b → W.heap.size ≤ b) (hb4 : Below W2.heap.size W2 W4) (hM4 : RgM (fun b => b ≠ g ∧ b ≠ mb ∧ vg'.ownBlock ≠ some b ∧ va.ownBlock ≠ some b) BT W4 vm4 M4)
    (hR4 : M1 M4 = R4) (hrow : W4.ownsRow w.heap.size 3 1 va A.length (nums A)) (hbl : Below w.heap.size w W4) (i : Nat) :
    ∃ (A6 : Option Addr) (n6 c6 : Nat) (W6 : World), (app_ #[28, 28] 28 #[va, .slice (some ⟨W4.heap.size, 0, none⟩) 1 1]).run Try.prog (W4.alloc (.cells #[.int .i64 (i : Nat)] 3)) = .ok (.slice A6 n6 c6) W6 ∧
      BoI w BT W6 g mb vg' vm4 (.slice A6 n6 c6) (L ++ E) M4 R4 (A ++ [i]) := by
  obtain ⟨v6, W6, hr, ho, hg, hat⟩ := app_part W4 w.heap.size va A hrow (by omega) hbl.size i
  obtain ⟨A6, c6, rfl, -, -⟩ := own_form ho
  refine ⟨A6, _, c6, W6, hr, ?_⟩
  obtain ⟨v6, hv6⟩ : ∃ v6, Value.slice A6 (A ++ [i]).length c6 = v6 := ⟨_, rfl⟩
  rw [hv6] at ho hat ⊢
  have hs6 := hg.size
  simp only [World.size_alloc] at hs6
  have hG4 := hG2.below hb4
  have hk : ∀ b, b < W4.heap.size → va.ownBlock ≠ some b → W6.heap[b]? = W4.heap[b]? := fun b hb h => (hg.block b (by simp; omega) (fun e => h e.symm)).trans (Below.heap_alloc _ _ _ hb)
  have hva : ∀ b, va.ownBlock = some b → w.heap.size ≤ b ∧ b < W.heap.size := fun b e => h.row.lt b e
  have hvc : ∀ {b : Nat} {o : Obj}, W4.heap[b]? = some o → (∀ cs, o ≠ .cells cs 3) → va.ownBlock ≠ some b := fun ho hn => own_ne hrow ho hn
  have hnop : NoP va.ownBlock (L ++ E) := fun x hx b hb e => by
    rcases List.mem_append.1 hx with hx | hx
    · exact h.apart x hx b hb e
    · have := hE x hx b hb
      have := (hva b e).2
      omega
  have hmo : ∃ es ck, W4.heap[mb]? = some (Obj.map es ck) := by obtain ⟨_, _, _, ⟨es, ck, h, _⟩, _⟩ := hG4.vars; exact ⟨es, ck, h⟩
  refine ⟨?_, ?_, hR4, ho, ?_, ?_⟩
  · refine hG4.to2 va.ownBlock hnop (hk g hG4.lt.1 (hvc hG4.cell fun cs e => by injection e with _ e; revert e; decide)) (hk mb hG4.lt.2 (by obtain ⟨es, ck, h'⟩ := hmo; exact hvc h' fun cs e => by cases e)) (fun b hb => hk b (hG4.row.lt b hb).2 ?_) (fun b cs _ hne hb => (hk b (Array.getElem?_eq_some_iff.1 hb).1 hne).trans hb)
    rcases hG4.row.2 with ⟨h', _⟩ | ⟨b', cap, cur, hv, _, hh, _⟩
    · rw [h'] at hb; cases hb
    · rw [hv] at hb
      have : b' = b := by simpa [Value.ownBlock] using hb
      subst this
      exact hvc hh fun cs e => by injection e with _ e; revert e; decide
  · refine ((hM4.imp fun b hlt hD => (⟨hD, hlt⟩ : (b ≠ g ∧ b ≠ mb ∧ vg'.ownBlock ≠ some b ∧ va.ownBlock ≠ some b) ∧ b < W4.heap.size)).to ⟨hg.os, hg.tape, hg.output, by omega, fun b hb => hk b (by have := hbl.size; omega) (fun e => by have := (hva b e).1; omega)⟩ (by omega) fun b hD hlt => hk b hlt hD.1.2.2.2).imp fun b _ hD => ⟨hD.1.1, hD.1.2.1, hD.1.2.2.1, ?_⟩
    rcases hat with e | e
    · rw [e]; exact hD.1.2.2.2
    · rw [e]; intro e2; injection e2 with e2; have := hD.2; omega
  · intro x hx b hb e
    rcases hat with e' | e'
    · exact hnop x hx b hb (by rw [← e']; exact e)
    · rw [e'] at e; injection e with e
      have := (hG4.nodes.lt_own x hx b hb).1
      omega
  · exact ⟨hg.os.trans hbl.os, hg.tape.trans hbl.tape, hg.output.trans hbl.output, by have := hbl.size; omega, fun b hb => (hk b (by have := hbl.size; omega) fun e => by have := (hva b e).1; omega).trans (hbl.block b hb)⟩
end Go.Proofs.Ytbdckmnppeglfaa
