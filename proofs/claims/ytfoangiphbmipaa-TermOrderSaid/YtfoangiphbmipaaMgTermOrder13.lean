/- Texts of one proof, one behind the other. -/
import Derived.Test.YtfoangiphbmipaaMgTermOrder12
import Derived.Test.YtfoangiphbmipaaMgTermOrder11
import Derived.Test.YtfoangiphbmipaaMgTermOrder5
import Derived.Test.YtfoangiphbmipaaMgTermOrder7
/- term.inOrder as an iterator; term.Size. -/
namespace Go.Proofs.Ytfoangiphbmipaa
open Go.RowKit Go.Shelf
attribute [local go_sem] Oper.semAt_some

/-- term.inOrder: the term is boxed, the function that comes has the box. -/
theorem order_make (x : Nd) (w : World) :
    Calls Try.prog 20 #[teVal x] w fun e w' => e = .returned (.func (.func 26) #[] #[.pointer (some ⟨w.heap.size, 0, none⟩)]) ∧ w' = w.alloc (.cells (ndC x).toArray 29) := by
  obtain ⟨x0, x1, x2, x3, x4, ⟨xu1, xu2, xu3⟩, x6, ⟨xv1, xv2, xv3⟩, x8, x9⟩ := x
  dsimp only [teVal, ndC, slv]
  go_enter Try.func20, Try.ntmps20
  go_wp2
  go_ret
  exact ⟨rfl, rfl⟩
/-- A term alone, as a list. -/
abbrev one_ (x : Nd) (ps : Te) : Te := .cons x ps .nil
/-- Its contract, as an iterator's. -/
theorem order_seq (n_ : Nat) (hn : 2 ≤ n_) (Bs B : Nat) (x : Nd) (ps : Te) (hf : ps.size < 1000000) (w : World) (hB : B ≤ w.heap.size) (hBs : w.heap[Bs]? = some (.cells (ndC x).toArray 29)) (hL : TmL B w (x, ps)) :
    SeqS n_ Try.prog 26 #[.pointer (some ⟨Bs, 0, none⟩)] B (fun t : Tm => #[teVal t.1]) (fun ys => ys = (one_ x ps).pre) (fun pre => pre ≠ [] ∧ ∃ s, pre ++ s = (one_ x ps).pre) (fun pre t => ∃ s, pre ++ t :: s = (one_ x ps).pre) w := by
  intro l J Jx W hW hJ hJx hY h0
  exact order1 n_ hn l Bs B x ps hf J Jx W (Nat.le_trans hB hW.size) hJ hJx hY ((hW.block Bs (Array.getElem?_eq_some_iff.1 hBs).1).trans hBs) (hL.below (hW.mono hB)) h0
theorem ownS_box {β : Type} {O : Nat → Prop} {B b : Nat} {u : TypeId} (f : β → Value) : OwnFrom B (fun s W => Boxed W b u (f s) ∧ ¬ O b) := OwnFrom.and (Own.from (boxed_own _ _ f) B) (ownFrom_pure _ _)
theorem ownS_below {β : Type} {O : Nat → Prop} {B C : Nat} {w : World} (hC : C ≤ B) (hw : C ≤ w.heap.size) : OwnFrom B (fun (_ : β) W => Below C w W ∧ ∀ k, O k → C ≤ k) := OwnFrom.and (below_own hC hw) (ownFrom_pure _ _)
theorem Kq.box {O : Nat → Prop} {B b : Nat} {W : World} {u : TypeId} {v : Value} (_hb : Boxed W b u v) (hO : ¬ O b) (hB : B ≤ b) (v' : Value) : Kq O B W (W.setCell ⟨b, 0, none⟩ v') :=
  ⟨(Below.refl _ _).setCell (p := ⟨b, 0, none⟩) hB v', fun k hk => Below.heap_setCell _ _ _ _ (fun e => hO (by simp only at e; exact e ▸ hk))⟩
/-- A new block with a term's cells. -/
theorem NdAt.of_block {w : World} {g : Nat} {x : Nd} {T : TypeId} (h : w.heap[g]? = some (.cells (ndC x).toArray T)) : NdAt w g 0 x := NdAt.of_cells fun j u hu => by
  rw [Nat.zero_add, cell_of_row w g j _ _ (0, 0) h]
  simpa using hu
set_option maxRecDepth 100000 in
set_option maxHeartbeats 2000000 in
theorem esize_any (w : World) (B : Nat) (x : Nd) (ps : Te) (hB : B ≤ w.heap.size) (hL : TmL B w (x, ps)) (hs : ps.size < 1000000) :
    Calls Try.prog 17 #[teVal x] w fun e w' => e = .returned (.int .i64 (1 + ps.size)) ∧ Below w.heap.size w w' := by
  obtain ⟨w0, hw0⟩ : ∃ w0, w.alloc (Obj.cells (ndC x).toArray 29) = w0 := ⟨_, rfl⟩
  have hs0 : w0.heap.size = w.heap.size + 1 := by rw [← hw0]; simp
  have hb0 : Below w.heap.size w w0 := by rw [← hw0]; exact (Below.refl _ _).alloc (Nat.le_refl _) _
  have hk0 : w0.heap[w.heap.size]? = some (Obj.cells (ndC x).toArray 29) := by rw [← hw0]; exact heap_alloc_new _ _
  obtain ⟨w1, hw1⟩ : ∃ w1, w0.alloc (Obj.cells #[.int .i64 0] 3) = w1 := ⟨_, rfl⟩
  have hs1 : w1.heap.size = w.heap.size + 1 + 1 := by rw [← hw1]; simp; omega
  have hb1 : Below w.heap.size w w1 := by rw [← hw1]; exact hb0.alloc (by omega) _
  have hk1_0 : w1.heap[w.heap.size]? = some (Obj.cells (ndC x).toArray 29) := by rw [← hw1]; exact (Below.heap_alloc _ _ _ (by omega)).trans hk0
  have hk1_1 : w1.heap[w.heap.size + 1]? = some (Obj.cells #[.int .i64 0] 3) := by rw [← hw1, ← hs0]; exact heap_alloc_new _ _
  obtain ⟨w2, hw2⟩ : ∃ w2, w1.alloc (Obj.cells (ndC x).toArray 29) = w2 := ⟨_, rfl⟩
  have hs2 : w2.heap.size = w.heap.size + 1 + 1 + 1 := by rw [← hw2]; simp; omega
  have hb2 : Below w.heap.size w w2 := by rw [← hw2]; exact hb1.alloc (by omega) _
  have hk2_0 : w2.heap[w.heap.size]? = some (Obj.cells (ndC x).toArray 29) := by rw [← hw2]; exact (Below.heap_alloc _ _ _ (by omega)).trans hk1_0
  have hk2_1 : w2.heap[w.heap.size + 1]? = some (Obj.cells #[.int .i64 0] 3) := by rw [← hw2]; exact (Below.heap_alloc _ _ _ (by omega)).trans hk1_1
  have hk2_2 : w2.heap[w.heap.size + 1 + 1]? = some (Obj.cells (ndC x).toArray 29) := by rw [← hw2, ← hs1]; exact heap_alloc_new _ _
  have HSEQ := Lib.hid (order_seq 3 (by omega) (w.heap.size + 1 + 1) B x ps hs w2 (by omega) hk2_2 (hL.below (hb2.mono hB)))
  have HK0 := Lib.hid hk2_0
  have HK1 := Lib.hid hk2_1
  have HBL := Lib.hid (And.intro hb2 hs2)
  have HL := Lib.hid hL
  obtain ⟨x0, x1, x2, x3, x4, ⟨xu1, xu2, xu3⟩, x6, ⟨xv1, xv2, xv3⟩, x8, x9⟩ := x
  obtain ⟨X, hX⟩ : ∃ X : Nd, (⟨x0, x1, x2, x3, x4, (xu1, xu2, xu3), x6, (xv1, xv2, xv3), x8, x9⟩ : Nd) = X := ⟨_, rfl⟩
  have hm := order_make ⟨x0, x1, x2, x3, x4, (xu1, xu2, xu3), x6, (xv1, xv2, xv3), x8, x9⟩ w1
  rw [← hw1, ← hw0] at hm
  have HM := Lib.hid hm
  have HW := Lib.hid (And.intro hw0 (And.intro hw1 (hw2)))
  dsimp only [ndC, teVal, slv] at HW HM ⊢
  rw [hX] at HSEQ HL
  have HX := Lib.hid hX
  clear hm hX hL hw0 hs0 hb0 hw1 hs1 hb1 hw2 hs2 hb2 hk0 hk1_0 hk1_1 hk2_0 hk2_1 hk2_2
  refine (callsIn_wide (n := 4)).1 ?_
  refine callsIn_of_wp_marks Try.func17 rfl trivial ?_ rfl
  simp only [Try.ntmps17, List.size_toArray, List.length_cons, List.length_nil, Nat.reduceAdd, Nat.reduceSub, Array.replicate_succ, Array.replicate_zero, List.push_toArray, List.append_toArray, List.nil_append, List.cons_append]
  gi_wp2_with (refine ⟨trivial, ?_⟩; gi_at_call 20; refine (callsIn_wide.2 HM.out).mono ?_; rintro e w' ⟨rfl, rfl⟩)
  rw [HW.out.1, HW.out.2.1, HW.out.2.2]
  obtain ⟨hb2, hs2⟩ := HBL.out
  refine wpIn_rangeS (by omega) (gf := 26) (lb := #[.pointer (some ⟨w.heap.size + 1 + 1, 0, none⟩)]) rfl (enters_of Try.func26 (by kernel_rfl) rfl) HSEQ.out (Below.refl _ _) (by omega) (fun _ => rfl)
    (fun O pre W => (Boxed W (w.heap.size + 1) 3 (.int .i64 pre.length) ∧ ¬ O (w.heap.size + 1)) ∧ (Below w.heap.size w W ∧ ∀ k, O k → w.heap.size ≤ k)) (fun _ _ _ _ => False)
    (fun O => OwnFrom.and (ownS_box fun pre : List Tm => .int .i64 pre.length) (ownS_below (by omega) (Nat.le_refl _))) (fun _ _ _ _ _ _ hs _ _ => hs.elim)
    (AbS.and AbS.box (AbS.below (Nat.le_refl _))) (fun _ _ _ _ _ _ hs _ _ => hs.elim)
    ⟨⟨HK1.out, id⟩, hb2, fun _ h => h.elim⟩
    (fun t a' _ => a' = { tmps := #[.agg #[.int .i64 x0, .string x1, .int .i64 x2, .int .i64 x3, .int .i64 x4, .slice xu1 xu2 xu3, .slice xv1 xv2 xv3, .int .i64 x8, .int .i64 x9], .pointer (some ⟨w.heap.size, 0, none⟩), .int .i64 0, .pointer (some ⟨w.heap.size + 1, 0, none⟩), .agg #[.int .i64 x0, .string x1, .int .i64 x2, .int .i64 x3, .int .i64 x4, .slice xu1 xu2 xu3, .slice xv1 xv2 xv3, .int .i64 x8, .int .i64 x9], .func (.func 26) #[] #[.pointer (some ⟨w.heap.size + 1 + 1, 0, none⟩)], teVal t.1, undef, undef, undef], defers := [] })
    (fun _ _ _ _ _ _ hs _ _ => hs) ?assign ?body ?done ?stop
  case assign =>
    rintro l O pre t W K hi _ hO hK
    gi_wp2
    exact hK _ _ (KeepsFrom.refl _ _) (Kq.refl _ _ _) hi (by simp)
  case body =>
    rintro l O pre t a' W hl ⟨⟨hbz, hbo⟩, hbw, hOw⟩ hsz hO rfl ⟨s, hgs⟩
    have bc := hbz.cell
    have bf := hbz.frozen
    have hpl : pre.length ≤ 1000001 := by
      have := congrArg List.length hgs
      rw [Te.pre_len, List.length_append] at this
      simp only [Te.size] at this
      omega
    have HB := Lib.hid (And.intro hbz (And.intro hbo (And.intro hbw hOw)))
    clear hgs hbz hbo hbw hOw hs2 hb2
    gi_wp2
    obtain ⟨hbz, hbo, hbw, hOw⟩ := HB.out
    refine ⟨(KeepsOthers.setCell _ _ _).from _, Kq.box hbz hbo (by omega) _, ⟨?_, hbo⟩, hbw.trans ((Below.refl _ _).grown (grownBy_setCell' W (w.heap.size + 1) _) hbw.size (fun k e => by cases e; omega)), hOw⟩
    rw [List.length_append, List.length_singleton, Int.natCast_add, Int.natCast_one]
    exact hbz.set _
  case done =>
    rintro D O ys W hD rfl ⟨⟨hbz, _⟩, hbw, _⟩ hK
    rw [Te.pre_len] at hbz
    have bc := hbz.cell
    gi_wp2
    refine ⟨by simp, .inl ⟨_, _, rfl, run_takeDeferred hK, ?_⟩⟩
    have hgp := grownBy_putObj' W D (.deferred none)
    refine ⟨_, results_tmp rfl _ _ _, ?_, hbw.trans ((Below.refl _ _).grown hgp hbw.size (fun k e => by cases e; omega))⟩
    simp [Te.size]
  case stop =>
    rintro D c O pre W _ _ h _
    exact h.elim
end Go.Proofs.Ytfoangiphbmipaa
/- types.Right, types.Has. -/
namespace Go.Proofs.Ytfoangiphbmipaa
open Go.RowKit Go.Shelf
attribute [local go_sem] Oper.semAt_some

/-- Is every one of them a type, its parts left aside? -/
def allAlone (l : List Tr) : Bool := l.all fun x => alone x.1 x.2.1 x.2.2.2.1
theorem load_bool {w : World} {g : Nat} {b : Bool} (h : w.cell? ⟨g, 0, none⟩ = some (.bool b)) : (loadVar 4 ⟨g, 0, none⟩).run Try.prog w = .ok (.bool b) w := by
  go_simp
set_option maxRecDepth 100000 in
set_option maxHeartbeats 2000000 in
theorem right_any (w : World) (B : Nat) (k n : Int) (u : Sl) (ps : Fo) (hB : B ≤ w.heap.size) (hps : TyV B w ps (slv u)) (hs : ps.size < 1000000) :
    Calls Try.prog 39 #[tyVal k n (slv u)] w fun e w' => e = .returned (.bool (allAlone (Fo.cons k n u ps .nil).pre)) ∧ Below w.heap.size w w' := by
  obtain ⟨u1, u2, u3⟩ := u
  dsimp only [tyVal, slv] at hps ⊢
  refine (callsIn_wide (n := 4)).1 ?_
  refine callsIn_of_wp_marks Try.func39 rfl trivial ?_ rfl
  simp only [Try.ntmps39, List.size_toArray, List.length_cons, List.length_nil, Nat.reduceAdd, Nat.reduceSub, Array.replicate_succ, Array.replicate_zero, List.push_toArray, List.append_toArray, List.nil_append, List.cons_append]
  gi_wp2_with (refine ⟨trivial, ?_⟩; gi_at_call 45; refine (callsIn_wide.2 (all_make _ 1 1 _)).mono ?_; rintro e w' ⟨rfl, rfl⟩)
  obtain ⟨wa, hwa⟩ : ∃ wa, (w.alloc (Obj.cells #[.int .i64 k, .int .i64 n, .slice u1 u2 u3] 24)).alloc (Obj.cells #[.bool false] 4) = wa := ⟨_, rfl⟩
  have hsa : wa.heap.size = w.heap.size + 1 + 1 := by rw [← hwa]; simp
  have hba : Below w.heap.size w wa := by rw [← hwa]; exact ((Below.refl _ w).alloc (Nat.le_refl _) _).alloc (by simp) _
  have bz : Boxed wa (w.heap.size + 1) 4 (.bool false) := by
    rw [← hwa]
    have := Boxed.new (w.alloc (Obj.cells #[.int .i64 k, .int .i64 n, .slice u1 u2 u3] 24)) 4 (.bool false)
    rwa [World.size_alloc] at this
  obtain ⟨w4, hw4, hs4, hbx, hrd, hTL, hb4⟩ := one_laid (w := wa) (B := B) k n (u1, u2, u3) ps (by omega) (hps.below (hba.mono hB))
  dsimp only [slv] at hw4
  rw [hwa, ← hsa, hw4]
  have bz4 : Boxed w4 (w.heap.size + 1) 4 (.bool false) := (hb4.block _ (by omega)).trans bz
  have hb04 : Below w.heap.size w w4 := hba.trans (hb4.mono (by omega))
  have hf : (Fo.cons k n (u1, u2, u3) ps .nil).size = 1 + ps.size := by simp [Fo.size]
  refine wpIn_rangeC (by omega) (gf := 50) (lb := #[.pointer (some ⟨wa.heap.size + 1, 0, none⟩)]) rfl (enters_of Try.func50 (by kernel_rfl) rfl)
    (all_seq 3 (by omega) (wa.heap.size + 1) B _ (.cons k n (u1, u2, u3) ps .nil) (by omega) w4 (by omega) hbx hrd hTL) (Below.refl _ _) KpC.t (KpC.b (by omega)) (fun _ => rfl)
    (fun pre W => allAlone pre = true ∧ Boxed W (w.heap.size + 1) 4 (.bool false) ∧ Below w.heap.size w W) (fun c pre W => (c = .ret ∧ allAlone pre = false) ∧ Boxed W (w.heap.size + 1) 4 (.bool false) ∧ Below w.heap.size w W)
    (OwnFrom.and (ownFrom_pure _ _) (OwnFrom.and (Own.from (boxed_own _ _ (fun _ => .bool false)) _) (below_own (by omega) (Nat.le_refl _)))) (fun _ => OwnFrom.and (ownFrom_pure _ _) (OwnFrom.and (Own.from (boxed_own _ _ (fun _ => .bool false)) _) (below_own (by omega) (Nat.le_refl _))))
    (AbC.and AbC.pure (AbC.and (box_ab (by decide)) (below_ab (by omega) (Nat.le_refl _)))) (fun _ => AbC.and AbC.pure (AbC.and (box_ab (by decide)) (below_ab (by omega) (Nat.le_refl _))))
    ⟨rfl, bz4, hb04⟩
    (fun x a' W => ∃ Bx, (W.cell? ⟨Bx, 0, none⟩ = some (.int .i64 x.1) ∧ W.cell? ⟨Bx, 1, none⟩ = some (.int .i64 x.2.1) ∧ W.cell? ⟨Bx, 2, none⟩ = some (slv x.2.2)) ∧ a' = { tmps := #[tyVal k n (.slice u1 u2 u3), .pointer (some ⟨w.heap.size, 0, none⟩), .pointer (some ⟨w.heap.size + 1, 0, none⟩), .pointer (some ⟨Bx, 0, none⟩), tyVal k n (.slice u1 u2 u3), .slice (some ⟨wa.heap.size, 0, none⟩) 1 1, .func (.func 50) #[] #[.pointer (some ⟨wa.heap.size + 1, 0, none⟩)], trV x, undef, undef, undef], defers := [] })
    (fun x a' s W W' row hs hg hr => by
      obtain ⟨Bx, ⟨c0, c1, c2⟩, ha⟩ := hs
      exact ⟨Bx, ⟨cell_kept c0 hg (fun r e => (hr r e).2), cell_kept c1 hg (fun r e => (hr r e).2), cell_kept c2 hg (fun r e => (hr r e).2)⟩, ha⟩) ?assign ?body ?done ?stop
  case assign =>
    rintro l pre x W K ⟨hi1, hi2, hi3⟩ hK
    obtain ⟨x0, x1, A3, n3, c3⟩ := x
    dsimp only [trV, slv] at hK ⊢
    have hsz := hi3.size
    gi_wp2
    exact hK _ _ ((KeepsOthers.alloc _ _).from _) (KpC.of_below ((Below.refl _ _).alloc (Nat.le_refl _) _) (by omega)) ⟨hi1, hi2.alloc _, hi3.alloc hsz _⟩ ⟨W.heap.size, ⟨by go_simp, by go_simp, by go_simp⟩, by simp [tyVal]⟩
  case body =>
    rintro l pre x a' W hl ⟨hi1, hi2, hi3⟩ ⟨Bx, ⟨c0, c1, c2⟩, rfl⟩ hlt
    obtain ⟨x0, x1, A3, n3, c3⟩ := x
    dsimp only [trV, slv, tyVal] at c0 c1 c2 ⊢
    obtain ⟨b, hb⟩ : ∃ b, alone x0 x1 n3 = b := ⟨_, rfl⟩
    have FA := Lib.hid (alone_any x0 x1 A3 n3 c3 W)
    rw [hb] at FA
    have hap : allAlone (pre ++ [(x0, x1, A3, n3, c3)]) = b := by
      have : allAlone (pre ++ [(x0, x1, A3, n3, c3)]) = (allAlone pre && alone x0 x1 n3) := by simp [allAlone]
      rw [this, hi1, hb]; rfl
    have HAP := Lib.hid hap
    have HSZ := Lib.hid hi3.size
    have HS4 := Lib.hid hs4
    have HSA := Lib.hid hsa
    clear hap hb hf hs4 hsa hs
    cases b
    · gi_wp2_with (refine ⟨trivial, ?_⟩; gi_at_call 46; refine (CallsIn.inRound l (callsIn_wide.2 FA.out)).mono ?_; rintro e w' ⟨rfl, hbw⟩; have hi2' : Boxed w' (w.heap.size + 1) 4 (.bool false) := (hbw.block _ hi2.lt).trans hi2; have bc := hi2'.cell; have bf := hi2'.frozen; have HB2 := Lib.hid hi2'; clear hi2')
      refine ⟨⟨Nat.le_trans hbw.size (KeepsOthers.setCell w' _ _).size, fun j o _ hj ho => (KeepsOthers.setCell w' _ _).same j o ((hbw.block j (Array.getElem?_eq_some_iff.1 hj).1).trans hj) ho⟩, ⟨rfl, HAP.out⟩, HB2.out.set _, ?_⟩
      have hb1 : Below w.heap.size w w' := hi3.trans (hbw.mono HSZ.out)
      exact hb1.trans ((Below.refl _ _).grown (grownBy_setCell' w' (w.heap.size + 1) _) hb1.size (fun k e => by cases e; omega))
    · gi_wp2_with (refine ⟨trivial, ?_⟩; gi_at_call 46; refine (CallsIn.inRound l (callsIn_wide.2 FA.out)).mono ?_; rintro e w' ⟨rfl, hbw⟩)
      refine ⟨⟨hbw.size, fun j o _ hj _ => (hbw.block j (Array.getElem?_eq_some_iff.1 hj).1).trans hj⟩, KpC.of_below hbw (Nat.le_trans hB HSZ.out), HAP.out, (hbw.block _ hi2.lt).trans hi2, hi3.trans (hbw.mono HSZ.out)⟩
  case done =>
    rintro D ys W hD rfl ⟨hi1, hi2, hi3⟩ hK
    have bc := hi2.cell
    have bf := hi2.frozen
    have HB2 := Lib.hid hi2
    have HA := Lib.hid hi1
    clear hi2 hi1 hf
    gi_wp2
    have bx : Boxed ((W.setCell ⟨w.heap.size + 1, 0, none⟩ (.bool true)).putObj D (.deferred none)) (w.heap.size + 1) 4 (.bool true) := (HB2.out.set _).kept (grownBy_putObj' _ D (.deferred none)) (fun e => by cases e; omega)
    have hK' : (W.setCell ⟨w.heap.size + 1, 0, none⟩ (.bool true)).heap[D]? = some (.deferred (some [])) := ((grownBy_setCell' W (w.heap.size + 1) (.bool true)).block D (Array.getElem?_eq_some_iff.1 hK).1 (fun e => by cases e; omega)).trans hK
    refine ⟨by simp, .inl ⟨_, _, rfl, run_takeDeferred hK', ?_⟩⟩
    refine ⟨_, results_box rfl _ _ _ _ rfl (load_bool bx.cell), ?_, ?_⟩
    · rw [HA.out]
    · have h1 := hi3.trans ((Below.refl _ _).grown (grownBy_setCell' W (w.heap.size + 1) (.bool true)) hi3.size (fun k e => by cases e; omega))
      exact h1.trans ((Below.refl _ _).grown (grownBy_putObj' _ D (.deferred none)) h1.size (fun k e => by cases e; omega))
  case stop =>
    rintro D c pre W hD ⟨hne, s, hsp⟩ ⟨⟨rfl, hi1⟩, hi2, hi3⟩ hK
    gi_wp2
    have bx : Boxed (W.putObj D (.deferred none)) (w.heap.size + 1) 4 (.bool false) := hi2.kept (grownBy_putObj' _ D (.deferred none)) (fun e => by cases e; omega)
    refine ⟨by simp, .inl ⟨_, _, rfl, run_takeDeferred hK, ?_⟩⟩
    refine ⟨_, results_box rfl _ _ _ _ rfl (load_bool bx.cell), ?_, hi3.trans ((Below.refl _ _).grown (grownBy_putObj' _ D (.deferred none)) hi3.size (fun k e => by cases e; omega))⟩
    have : allAlone (pre ++ s) = false := by
      have h2 : allAlone (pre ++ s) = (allAlone pre && allAlone s) := by simp [allAlone]
      rw [h2, hi1]; rfl
    rw [← hsp, this]
/-- Is it that variable? -/
def isVar (v : Int) (x : Tr) : Bool := x.1 == 1 && x.2.1 == v
end Go.Proofs.Ytfoangiphbmipaa
