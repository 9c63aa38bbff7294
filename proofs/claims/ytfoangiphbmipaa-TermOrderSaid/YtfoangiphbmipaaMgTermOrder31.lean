/- Texts of one proof, one behind the other. -/
import Derived.Test.YtfoangiphbmipaaMgTermOrder28
import Derived.Test.YtfoangiphbmipaaMgTermOrder22
import Derived.Deep.QuietTactic
import Derived.BigQuiet
/- term.Spans. -/
namespace Go.Proofs.Ytfoangiphbmipaa
open Go.RowKit Go.Shelf
attribute [local go_sem] Oper.semAt_some
attribute [local go_sem ↓] builtin_app

/-- The cells of terms' spans. -/
def spnC (L : List Tm) : List Value := L.flatMap fun t => [.int .i64 t.1.a, .int .i64 t.1.b]
theorem spnC_len (L : List Tm) : (spnC L).length = L.length * 2 := by
  induction L with
  | nil => rfl
  | cons t r ih => simp only [spnC, List.flatMap_cons, List.length_append, List.length_cons, List.length_nil] at ih ⊢; omega
theorem spnC_app (a b : List Tm) : spnC (a ++ b) = spnC a ++ spnC b := by simp [spnC]
theorem spnC_one (L : List Tm) : ∀ u ∈ spnC L, u.oneCell' = true := by
  intro u hu
  obtain ⟨t, _, h⟩ := List.mem_flatMap.1 hu
  simp at h
  rcases h with rfl | rfl <;> rfl
theorem spInfo : (Try.prog.info? 27).map (fun i => (i.zero, i.size, i.bytes)) = some (some (.agg #[.int .i64 0, .int .i64 0]), 2, 16) := by kernel_rfl
theorem sp_ne_def {W : World} {base D size n : Nat} {e : TypeId} {v : Value} {xs : List Value} {ds : Option (List Deferred)} (h : W.ownsRow base e size v n xs) (hD : W.heap[D]? = some (.deferred ds)) : v.ownBlock = none ∨ v.ownBlock ≠ some D := by
  rcases h.2 with ⟨rfl, _⟩ | ⟨a, cap, cur, rfl, _, hgb, _⟩
  · exact .inl rfl
  · refine .inr fun e2 => ?_
    obtain rfl : a = D := by simpa [Value.ownBlock] using e2
    rw [hgb] at hD; cases hD
/-- What stands between two rounds. -/
def SpI (w : World) (b3 base : Nat) (O : Nat → Prop) (pre : List Tm) (W : World) : Prop :=
  ∃ v, Boxed W b3 39 v ∧ W.ownsRow (base + 2) 27 2 v pre.length (spnC pre) ∧ (∀ g, v.ownBlock = some g → ¬ O g) ∧ Below w.heap.size w W ∧ (∀ k, O k → base ≤ k) ∧ base ≤ W.heap.size
theorem SpI.ab {w : World} {b3 base : Nat} (hb : b3 < base) (hw : w.heap.size ≤ base) : AbS (SpI w b3 base) := by
  rintro O O' s A C ⟨v, h1, h2, h3, h4, h5, h6⟩ hst hO
  refine ⟨v, (hst.block _ h1.lt fun h => by have := h5 _ h; omega).trans h1, row_same h2 fun g hv => hst.block g (h2.lt g hv).2 (h3 g hv), fun g hv ho => h3 g hv (hO g (h2.lt g hv).2 ho), h4.trans (hst.below (fun k hk => by have := h5 k hk; omega) h4.size), fun k hk => ?_, Nat.le_trans h6 hst.size⟩
  by_cases h : k < A.heap.size
  · exact h5 k (hO k h hk)
  · omega
theorem SpI.rec_ {w : World} {b3 base : Nat} (hb : b3 < base) (hw : w.heap.size ≤ base) {O : Nat → Prop} {s : List Tm} {A C : World} (h : SpI w b3 base O s A) (hst : Stp (fun k => k = base ∨ k = base + 1) A C) : SpI w b3 base O s C := by
  obtain ⟨v, h1, h2, h3, h4, h5, h6⟩ := h
  exact ⟨v, (hst.block _ h1.lt (by omega)).trans h1, row_same h2 fun g hv => hst.block g (h2.lt g hv).2 (by have := (h2.lt g hv).1; omega), h3, h4.trans (hst.below (fun k hk => by omega) h4.size), h5, Nat.le_trans h6 hst.size⟩
theorem sp_push {w : World} {b3 base : Nat} {O : Nat → Prop} {pre : List Tm} {t : Tm} {W6 W' : World} {Av : Option Addr} {cv k : Nat} {v' : Value}
    (hk : pre.length = k) (hb : b3 < base) (hw3 : w.heap.size ≤ b3) (hOb : ∀ k, O k → base ≤ k) (hOW : ∀ k, O k → k < W6.heap.size) (hb6 : base + 2 ≤ W6.heap.size) (hbw : Below w.heap.size w W6)
    (hown : W6.ownsRow (base + 2) 27 2 (.slice Av k cv) k (spnC pre)) (hvO : ∀ g, (Value.slice Av k cv).ownBlock = some g → ¬ O g)
    (hat : v'.ownBlock = (Value.slice Av k cv).ownBlock ∨ ∀ g, v'.ownBlock = some g → W6.heap.size ≤ g)
    (hown' : W'.ownsRow (base + 2) 27 2 v' (k + 1) (spnC pre ++ [.int .i64 t.1.a, .int .i64 t.1.b])) (hbox' : Boxed W' b3 39 v')
    (hos : W'.os = W6.os) (htp : W'.tape = W6.tape) (hout : W'.output = W6.output) (hsz : W6.heap.size ≤ W'.heap.size)
    (hWW : ∀ j, j < W6.heap.size → some j ≠ (Value.slice Av k cv).ownBlock → j ≠ b3 → W'.heap[j]? = W6.heap[j]?) :
    Rec base W6 W' ∧ Kx O (fun k => k < w.heap.size) W6 W' ∧ SpI w b3 base O (pre ++ [t]) W' := by
  have hrow : ∀ j, (Value.slice Av k cv).ownBlock = some j → base + 2 ≤ j := fun j h => (hown.lt j h).1
  have hwz := hbw.size
  have low : ∀ j, j < w.heap.size → W'.heap[j]? = W6.heap[j]? := fun j hj => hWW j (by omega) (fun e => by have := hrow j e.symm; omega) (by omega)
  refine ⟨fun j hj => hWW j (by omega) (fun e => by have := hrow j e.symm; omega) (by omega), ⟨⟨hos, htp, hout, hsz, low⟩, fun j hj => hWW j (hOW j hj) (fun e => hvO j e.symm hj) (by have := hOb j hj; omega)⟩, v', hbox', ?_, ?_, hbw.trans ⟨hos, htp, hout, hsz, low⟩, hOb, by omega⟩
  · rw [spnC_app, List.length_append, hk]; simpa [spnC] using hown'
  · intro g hg hO
    rcases hat with h | h
    · exact hvO g (h ▸ hg) hO
    · have := h g hg; have := hOW g hO; omega
set_option maxRecDepth 100000 in
set_option maxHeartbeats 4000000 in
theorem espans_any (w : World) (x : Nd) (ps : Te) (hL : TmL w.heap.size w (x, ps)) (hs : ps.size < 1000000) :
    Calls Try.prog 11 #[teVal x] w fun e w' => ∃ v, e = .returned v ∧ Rd w' 2 v (1 + ps.size) (spnC (one_ x ps).pre) ∧ Below w.heap.size w w' := by
  obtain ⟨w0, hw0⟩ : ∃ w0, w.alloc (Obj.cells (ndC x).toArray 29) = w0 := ⟨_, rfl⟩
  have hs0 : w0.heap.size = w.heap.size + 1 := by rw [← hw0]; simp
  have hb0 : Below w.heap.size w w0 := by rw [← hw0]; exact (Below.refl _ _).alloc (Nat.le_refl _) _
  have hk0 : w0.heap[w.heap.size]? = some (Obj.cells (ndC x).toArray 29) := by rw [← hw0]; exact heap_alloc_new _ _
  obtain ⟨w1, hw1⟩ : ∃ w1, w0.alloc (Obj.cells #[.slice none 0 0] 39) = w1 := ⟨_, rfl⟩
  have hs1 : w1.heap.size = w.heap.size + 1 + 1 := by rw [← hw1]; simp; omega
  have hb1 : Below w.heap.size w w1 := by rw [← hw1]; exact hb0.alloc (by omega) _
  have hk1_0 : w1.heap[w.heap.size]? = some (Obj.cells (ndC x).toArray 29) := by rw [← hw1]; exact (Below.heap_alloc _ _ _ (by omega)).trans hk0
  have hk1_1 : w1.heap[w.heap.size + 1]? = some (Obj.cells #[.slice none 0 0] 39) := by rw [← hw1, ← hs0]; exact heap_alloc_new _ _
  obtain ⟨w2, hw2⟩ : ∃ w2, w1.alloc (Obj.cells (ndC x).toArray 29) = w2 := ⟨_, rfl⟩
  have hs2 : w2.heap.size = w.heap.size + 1 + 1 + 1 := by rw [← hw2]; simp; omega
  have hb2 : Below w.heap.size w w2 := by rw [← hw2]; exact hb1.alloc (by omega) _
  have hk2_0 : w2.heap[w.heap.size]? = some (Obj.cells (ndC x).toArray 29) := by rw [← hw2]; exact (Below.heap_alloc _ _ _ (by omega)).trans hk1_0
  have hk2_1 : w2.heap[w.heap.size + 1]? = some (Obj.cells #[.slice none 0 0] 39) := by rw [← hw2]; exact (Below.heap_alloc _ _ _ (by omega)).trans hk1_1
  have hk2_2 : w2.heap[w.heap.size + 1 + 1]? = some (Obj.cells (ndC x).toArray 29) := by rw [← hw2, ← hs1]; exact heap_alloc_new _ _
  have HSEQ := Lib.hid (order_seqX 3 (by omega) (w.heap.size + 1 + 1) w.heap.size (fun k => k < w.heap.size) (fun _ h => h) x ps hs w2 (by omega) hk2_2 (fun W' hk => hL.below (hb2.trans ⟨hk.os, hk.tape, hk.output, hk.size, hk.keep⟩)))
  have HK0 := Lib.hid hk2_0
  have HK1 := Lib.hid hk2_1
  have HBL := Lib.hid (And.intro hb2 hs2)
  have HL := Lib.hid hL
  obtain ⟨x0, x1, x2, x3, x4, ⟨xu1, xu2, xu3⟩, x6, ⟨xv1, xv2, xv3⟩, x8, x9⟩ := x
  obtain ⟨X, hX⟩ : ∃ X : Nd, (⟨x0, x1, x2, x3, x4, (xu1, xu2, xu3), x6, (xv1, xv2, xv3), x8, x9⟩ : Nd) = X := ⟨_, rfl⟩
  have hm := order_make ⟨x0, x1, x2, x3, x4, (xu1, xu2, xu3), x6, (xv1, xv2, xv3), x8, x9⟩ w1
  rw [← hw1, ← hw0] at hm
  have HM := Lib.hid hm
  have HW := Lib.hid (And.intro hw0 (And.intro hw1 (hw2)))
  dsimp only [ndC, teVal, slv] at HW HM ⊢
  rw [hX] at HSEQ HL ⊢
  have HX := Lib.hid hX
  clear hm hX hL hw0 hs0 hb0 hw1 hs1 hb1 hw2 hs2 hb2 hk0 hk1_0 hk1_1 hk2_0 hk2_1 hk2_2
  refine (callsIn_wide (n := 4)).1 ?_
  refine callsIn_of_wp_marks Try.func11 rfl trivial ?_ rfl
  simp only [Try.ntmps11, List.size_toArray, List.length_cons, List.length_nil, Nat.reduceAdd, Nat.reduceSub, Array.replicate_succ, Array.replicate_zero, List.push_toArray, List.append_toArray, List.nil_append, List.cons_append]
  gi_wp2_with (refine ⟨trivial, ?_⟩; gi_at_call 20; refine (callsIn_wide.2 HM.out).mono ?_; rintro e w' ⟨rfl, rfl⟩)
  rw [HW.out.1, HW.out.2.1, HW.out.2.2]
  obtain ⟨hb2, hs2⟩ := HBL.out
  refine wpIn_rangeX (by omega) (gf := 26) (lb := #[.pointer (some ⟨w.heap.size + 1 + 1, 0, none⟩)]) rfl (enters_of Try.func26 (by kernel_rfl) rfl) HSEQ.out (Below.refl _ _) (fun k hk => by omega) (fun _ => rfl)
    (SpI w (w.heap.size + 1) w2.heap.size) (fun _ _ _ _ => False)
    (fun O s A C h hst => h.rec_ (by omega) (by omega) hst) (fun _ _ _ _ _ h _ => h.elim) (SpI.ab (by omega) (by omega)) (fun _ _ _ _ _ _ h _ _ => h.elim)
    ⟨_, HK1.out, ⟨rfl, .inl ⟨rfl, rfl⟩⟩, (fun g h => by cases h), hb2, (fun _ h => h.elim), Nat.le_refl _⟩
    (fun O pre t a' W => ∃ Bx, W.heap[Bx]? = some (Obj.cells (ndC t.1).toArray 29) ∧ (∃ s, pre ++ t :: s = (one_ X ps).pre) ∧ a' = { tmps := #[.agg #[.int .i64 x0, .string x1, .int .i64 x2, .int .i64 x3, .int .i64 x4, .slice xu1 xu2 xu3, .slice xv1 xv2 xv3, .int .i64 x8, .int .i64 x9], .pointer (some ⟨w.heap.size, 0, none⟩), .slice none 0 0, .pointer (some ⟨w.heap.size + 1, 0, none⟩), .pointer (some ⟨Bx, 0, none⟩), .agg #[.int .i64 x0, .string x1, .int .i64 x2, .int .i64 x3, .int .i64 x4, .slice xu1 xu2 xu3, .slice xv1 xv2 xv3, .int .i64 x8, .int .i64 x9], .func (.func 26) #[] #[.pointer (some ⟨w.heap.size + 1 + 1, 0, none⟩)], teVal t.1, undef, undef, undef, undef, undef, undef], defers := [] })
    (fun O pre t a' s W W' row hs hg hr => by
      obtain ⟨Bx, hc, hp, ha⟩ := hs
      refine ⟨Bx, (hg.block Bx (Array.getElem?_eq_some_iff.1 hc).1 fun e => ?_).trans hc, hp, ha⟩
      obtain ⟨o, ho, hoc⟩ := (hr Bx e.symm).2
      rw [hc] at ho
      cases ho
      cases hoc) ?assign ?body ?done ?stop
  case assign =>
    rintro l2 O pre t W Kc hi ⟨_, _, hG⟩ hsz hO hK
    obtain ⟨⟨z1, z2, z3, z4, z5, ⟨zu1, zu2, zu3⟩, z7, ⟨zv1, zv2, zv3⟩, z9, z10⟩, zp⟩ := t
    dsimp only [teVal, slv] at hK ⊢
    have HI := Lib.hid hi
    have HG := Lib.hid hG
    clear hi hG
    gi_wp2
    have hal : Below W.heap.size W (W.alloc (Obj.cells #[.int .i64 z1, .string z2, .int .i64 z3, .int .i64 z4, .int .i64 z5, .slice zu1 zu2 zu3, .slice zv1 zv2 zv3, .int .i64 z9, .int .i64 z10] 29)) := (Below.refl _ _).alloc (Nat.le_refl _) _
    exact hK _ _ (Rec.of_below hal (by omega)) (Kx.of_below hal (fun k hk => by omega) fun k hk => (hO k hk).2) (SpI.ab (by omega) (by omega) _ _ _ _ _ HI.out (Stp.of_below hal) fun _ _ h => h) ⟨W.heap.size, heap_alloc_new W _, HG.out, rfl⟩
  case body =>
    rintro l2 O pre t a' W6 hl ⟨v, bv, hown, hvO, hbw, hOb, hsz2⟩ hsz hO ⟨Bx, hc, ⟨s, hgs⟩, rfl⟩
    have hpl : pre.length ≤ 1000001 := by
      have := congrArg List.length hgs
      rw [Te.pre_len, List.length_append] at this
      simp only [Te.size] at this
      omega
    obtain ⟨c0, c1, c2, c3, c4, c5, c6, c7, c8⟩ := NdAt.of_block hc
    obtain ⟨⟨z1, z2, z3, z4, z5, ⟨zu1, zu2, zu3⟩, z7, ⟨zv1, zv2, zv3⟩, z9, z10⟩, zp⟩ := t
    dsimp only [teVal, slv, ndC] at c0 c1 c2 c3 c4 c5 c6 c7 c8 hc ⊢
    simp only [Nat.zero_add] at c0 c1 c2 c3 c4 c5 c6 c7 c8
    obtain ⟨Av, cv, rfl, hk1, hk2⟩ := own_form hown
    obtain ⟨i0, hi0, hz0', hz1', hz2'⟩ := info_parts spInfo
    obtain ⟨k, hk⟩ : ∃ k, pre.length = k := ⟨_, rfl⟩
    rw [hk] at hown bv hvO hk1 hpl
    obtain ⟨W7, hW7⟩ : ∃ W7, W7 = W6.alloc (.cells #[.int .i64 z9, .int .i64 z10] 27) := ⟨_, rfl⟩
    have own1 : W7.ownsRow (w2.heap.size + 2) 27 2 (.slice Av k cv) k (spnC pre) := by rw [hW7]; exact hown.alloc _
    have rd1 : Rd W7 2 (.slice (some ⟨W6.heap.size, 0, none⟩) 1 1) 1 [.int .i64 z9, .int .i64 z10] := by
      rw [hW7]; exact rd_new W6 [.int .i64 z9, .int .i64 z10] 27 2 1 rfl (by unfold maxLen; omega)
    obtain ⟨v1, w1, hrun, hown1, hg1, hat⟩ := run_append_rd (P := Try.prog) W7 (w2.heap.size + 2) 39 39 27 i0 _ 2 16 Try.underlying39 hi0 hz0' hz1' hz2' rfl (by omega) (.slice Av k cv) k _ own1 _ 1 _ rd1 (by simp [Value.oneCell']) (by unfold maxLen; omega) (by omega) (by rw [hW7]; simp; omega)
    obtain ⟨g2, cp2, rfl, hgg0, hg2'⟩ := own_shape hown1 (by omega)
    have hrun2 : (app_ #[39, 39] 39 #[.slice Av k cv, .slice (some ⟨W6.heap.size, 0, none⟩) 1 1]).run Try.prog W7 = .ok (.slice (some ⟨g2, 0, none⟩) (k + 1) cp2) w1 := hrun
    rw [hW7] at hrun2
    have bv1 : Boxed w1 (w.heap.size + 1) 39 (.slice Av k cv) := by
      refine Boxed.kept (W := W7) (by rw [hW7]; exact bv.alloc _) hg1 (bv.not_row (by decide) hown)
    have bc := bv.cell
    have bf := bv.frozen
    have bc1 := bv1.cell
    have bf1 := bv1.frozen
    obtain ⟨W8, hW8⟩ : ∃ W8, w1.setCell ⟨w.heap.size + 1, 0, none⟩ (.slice (some ⟨g2, 0, none⟩) (k + 1) cp2) = W8 := ⟨_, rfl⟩
    have gs := grownBy_setCell' w1 (w.heap.size + 1) (.slice (some ⟨g2, 0, none⟩) (k + 1) cp2)
    have hs7 : W7.heap.size = W6.heap.size + 1 := by rw [hW7]; simp
    have FA := Lib.hid (show Rec w2.heap.size W6 W8 ∧ Kx O (fun k => k < w.heap.size) W6 W8 ∧ SpI w (w.heap.size + 1) w2.heap.size O (pre ++ [((⟨z1, z2, z3, z4, z5, (zu1, zu2, zu3), z7, (zv1, zv2, zv3), z9, z10⟩ : Nd), zp)]) W8 from by
      rw [← hW8]
      refine sp_push (v' := .slice (some ⟨g2, 0, none⟩) (k + 1) cp2) hk (by omega) (by omega) hOb (fun k hk => (hO k hk).2) hsz hbw hown hvO ?_ (hown1.kept gs ?_) (bv1.set _) (gs.os.trans (hg1.os.trans (by rw [hW7]; rfl))) (gs.tape.trans (hg1.tape.trans (by rw [hW7]; rfl))) (gs.output.trans (hg1.output.trans (by rw [hW7]; rfl))) (by have := hg1.size; have := gs.size; omega) ?_
      · rcases hat with h | h
        · exact .inl h
        · exact .inr fun g hg => by rw [h] at hg; cases hg; omega
      · refine .inr fun e => ?_
        exact bv1.not_row (by decide) hown1 (by rw [e])
      · intro j hj h1 h2
        rw [gs.block j (by have := hg1.size; omega) (by simp; exact h2), hg1.block j (by omega) h1, hW7]
        exact Below.heap_alloc _ _ _ hj)
    clear hrun hown1 hg1 hat own1 rd1 bv bv1 hown hvO hW7 hc hbw hOb hO gs hs7 hgs
    gi_wp2
    exact FA.out
  case done =>
    rintro D O xs W hD rfl ⟨v, bv, hown, hvO, hbw, hOb, hsz2⟩ hDe hK
    subst hDe
    rw [Te.pre_len] at hown
    have bc := bv.cell
    obtain ⟨Av, cv, rfl, hk1, hk2⟩ := own_form hown
    have HH := Lib.hid (And.intro bv (And.intro hown hbw))
    clear bv hown hvO hbw hOb
    gi_wp2
    obtain ⟨bv, hown, hbw⟩ := HH.out
    refine ⟨by simp, .inl ⟨_, _, rfl, run_takeDeferred hK, ?_⟩⟩
    have hgp := grownBy_putObj' W w2.heap.size (.deferred none)
    refine ⟨_, results_tmp rfl _ _ _, _, rfl, ?_, hbw.trans ((Below.refl _ _).grown hgp hbw.size (fun k e => by cases e; omega))⟩
    have := Rd.of_own (hown.kept hgp (sp_ne_def hown hK))
    simpa [Te.size] using this
  case stop =>
    rintro D c O pre W _ _ h _ _
    exact h.elim
end Go.Proofs.Ytfoangiphbmipaa
/- The answer's Same at spans, where all are the same. -/
namespace Go.Proofs.Ytfoangiphbmipaa
open Go.RowKit
theorem spn_at (L : List Tm) (i j : Nat) (hi : i < L.length) (hj : j < 2) : (spnC L)[i * 2 + j]? = ([.int .i64 L[i].1.a, .int .i64 L[i].1.b] : List Value)[j]? := by
  induction L generalizing i with
  | nil => simp at hi
  | cons t l ih =>
    show ([.int .i64 t.1.a, .int .i64 t.1.b] ++ spnC l)[i * 2 + j]? = _
    cases i with
    | zero => rw [List.getElem?_append_left (by simp; omega)]; simp
    | succ i =>
      rw [List.getElem?_append_right (by simp; omega)]
      have : (i + 1) * 2 + j - [Value.int .i64 t.1.a, Value.int .i64 t.1.b].length = i * 2 + j := by simp; omega
      rw [this, ih i (by simp at hi; omega)]
      simp
theorem spn_form {w : World} {v : Value} {n : Nat} {L : List Tm} (h : Rd w 2 v n (spnC L)) (hn : n = L.length) (hp : 0 < n) : ∃ b off cap, v = .slice (some ⟨b, off, none⟩) n cap ∧ n ≤ cap ∧ cap ≤ maxLen ∧ b < w.heap.size ∧
    ∀ i (hi : i < L.length), w.cell? ⟨b, off + i * 2, none⟩ = some (.int .i64 L[i].1.a) ∧ w.cell? ⟨b, off + i * 2 + 1, none⟩ = some (.int .i64 L[i].1.b) := by
  rcases h.2 with ⟨h0, _⟩ | ⟨b, off, cap, rfl, hnc, hcm, hlt, hc⟩
  · omega
  · refine ⟨b, off, cap, rfl, hnc, hcm, hlt, fun i hi => ⟨?_, ?_⟩⟩
    · exact hc (i * 2 + 0) _ (spn_at L i 0 hi (by omega))
    · exact hc (i * 2 + 1) _ (spn_at L i 1 hi (by omega))
set_option maxHeartbeats 1000000 in
theorem rsame_spans (w : World) (v v' : Value) (n : Nat) (L : List Tm) (hL : n = L.length) (hn : 0 < n) (h1 : Rd w 2 v n (spnC L)) (h2 : Rd w 2 v' n (spnC L)) (hm : n ≤ 1000000) :
    Calls Try.prog 10 #[v, v'] w fun e w' => e = .returned (.bool true) ∧ Below w.heap.size w w' := by
  obtain ⟨b, off, cap, rfl, hnc, hcm, hlt, hc⟩ := spn_form h1 hL hn
  obtain ⟨b', off', cap', rfl, hnc', hcm', hlt', hc'⟩ := spn_form h2 hL hn
  have hb : ((n : Int) != (n : Int)) = false := by simp
  have hcl := Lib.hid hc
  have hcl' := Lib.hid hc'
  have HL := Lib.hid hL
  clear h1 h2 hc hc' hL
  go_enter Try.func10, Try.ntmps10
  go_wp2_with fail
  go_loopw [5] (fun t wr => ∃ k : Nat, k ≤ n ∧ t = .int .i64 k ∧ Below w.heap.size w wr) (fun t _ => n - (intOf t).toNat)
  case atStart => exact ⟨0, Nat.zero_le _, rfl, Below.refl _ _⟩
  case round =>
    obtain ⟨k, hk, rfl, hbw⟩ := hrel
    by_cases hkl : k < n
    · have hkL : k < L.length := by rw [← HL.out]; exact hkl
      obtain ⟨c0, c1⟩ := hcl.out k hkL
      obtain ⟨d0, d1⟩ := hcl'.out k hkL
      have e0 := (hbw.cell (p := ⟨b, off + k * 2, none⟩) hlt).trans c0
      have e1 := (hbw.cell (p := ⟨b, off + k * 2 + 1, none⟩) hlt).trans c1
      have g0 := (hbw.cell (p := ⟨b', off' + k * 2, none⟩) hlt').trans d0
      have g1 := (hbw.cell (p := ⟨b', off' + k * 2 + 1, none⟩) hlt').trans d1
      clear c0 c1 d0 d1
      generalize L[k].1.a = t0 at *
      generalize L[k].1.b = t1 at *
      clear hkL
      go_wp2_with fail
      go_quiet (fail)
      go_wp2_with fail
      go_roundw
      case rel => exact ⟨k + 1, by omega, by go_num, below_drewN hbw _⟩
      case measure => simp [intOf]; omega
    · go_wp2_with fail
      go_ret
      exact ⟨rfl, hbw⟩
end Go.Proofs.Ytfoangiphbmipaa
