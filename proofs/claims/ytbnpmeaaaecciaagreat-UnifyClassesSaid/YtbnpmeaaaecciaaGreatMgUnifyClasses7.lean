/- Texts of one proof, one behind the other. -/
import Derived.Test.YtbnpmeaaaecciaaGreatMgUnifyClasses6
import Derived.Deep.RegionHeld3
import Derived.Shelf.AbstractIn
import Derived.Test.YtbnpmeaaaecciaaGreatMgUnifyClasses1
import Derived.Test.YtbnpmeaaaecciaaGreatProg
import Derived.ProofKit
import Derived.OpenShut
import Derived.Deep.Slices
import Derived.Test.YtbnpmeaaaecciaaGreatMgUnifyClasses5
import Derived.Maps.Own
import Derived.Maps.Views
import Derived.Maps.OwnSet
/- graph.each. -/
namespace Go.Proofs.YtbnpmeaaaecciaaGreat
open Go.RowKit Go.Shelf
attribute [local go_sem] Oper.semAt_some
attribute [local go_sem ↓] builtin_app
/-- Between two rounds of the first loop. -/
def GeInv (w2 : World) (B : Nat) (F0 : Fo) (t4 t5 : Value) (wr : World) (s : Nat) : Prop :=
  ∃ (F : Fo) (pre : List Tr), F.size = s ∧ s ≤ 1000000 ∧ wr.ownsRow w2.heap.size 30 3 t4 pre.length (pre.flatMap trC) ∧ wr.ownsRow w2.heap.size 30 3 t5 F.len (F.top.flatMap trC) ∧
    (∀ k, t4.ownBlock = some k → t5.ownBlock ≠ some k) ∧ TyL B wr F ∧ pre ++ grO F = grO F0 ∧ pre.length + s ≤ 1000001 ∧ Below w2.heap.size w2 wr
/-- What the iterator lays and writes on its own. -/
def Its (M : Nat) (W W' : World) : Prop := ∃ row, W.grownBy W' row ∧ ∀ r, row = some r → M ≤ r ∧ ∃ o : Obj, W.heap[r]? = some o ∧ (o.isCells = false ∨ ∃ cs, o = .cells cs 138)
theorem Its.alloc (M : Nat) (W : World) (o : Obj) : Its M W (W.alloc o) := ⟨none, World.grownBy_alloc W _ none, fun _ h => by cases h⟩
theorem Its.below {M : Nat} {W W' : World} (h : Its M W W') (hM : M ≤ W.heap.size) : Below M W W' := by
  obtain ⟨row, hg, hr⟩ := h
  exact (Below.refl _ _).grown hg hM (fun k e => (hr k e).1)
/-- Between two calls of the visitor. -/
def EgI (J : Nat → List Tr → World → Prop) (L : List Tr) (w : World) (B s8 vb : Nat) (vc : Obj) (pre : List (Int × Tr)) (W : World) : Prop :=
  J s8 (pre.map (·.2)) W ∧ pre.map (·.2) = L.reverse.take pre.length ∧ Below B w W ∧ s8 ≤ W.heap.size ∧ W.heap[vb]? = some vc
theorem EgI.to {J : Nat → List Tr → World → Prop} {L : List Tr} {w : World} {B s8 vb : Nat} {vc : Obj} (hJ : ∀ M pre W W', w.heap.size ≤ M → J M pre W → Its M W W' → J M pre W') (hB : B ≤ w.heap.size) (h8 : w.heap.size ≤ s8) (hv : vb < s8) {pre : List (Int × Tr)} {W W' : World}
    (h : EgI J L w B s8 vb vc pre W) (hb : Its s8 W W') : EgI J L w B s8 vb vc pre W' :=
  ⟨hJ _ _ _ _ h8 h.1 hb, h.2.1, h.2.2.1.trans ((hb.below h.2.2.2.1).mono (Nat.le_trans hB h8)), Nat.le_trans h.2.2.2.1 (hb.below h.2.2.2.1).size, ((hb.below h.2.2.2.1).block _ hv).trans h.2.2.2.2⟩
theorem EgI.own {J : Nat → List Tr → World → Prop} {L : List Tr} {w : World} {B s8 vb : Nat} {vc : Obj} (hJ : ∀ M pre W W', w.heap.size ≤ M → J M pre W → Its M W W' → J M pre W') (hB : B ≤ w.heap.size) (h8 : w.heap.size ≤ s8) (hv : vb < s8) : OwnFrom s8 (EgI J L w B s8 vb vc) :=
  fun _ _ _ row hs hg hr => hs.to hJ hB h8 hv ⟨row, hg, fun r e => ⟨(hr r e).1, by obtain ⟨o, ho, hc⟩ := (hr r e).2; exact ⟨o, ho, .inl hc⟩⟩⟩
theorem EgI.ab {J : Nat → List Tr → World → Prop} {L : List Tr} {w : World} {B s8 vb : Nat} {vc : Obj} (hJ : ∀ M pre W W', w.heap.size ≤ M → J M pre W → Its M W W' → J M pre W') (hB : B ≤ w.heap.size) (h8 : w.heap.size ≤ s8) (hv : vb < s8) : AbC s8 138 (EgI J L w B s8 vb vc) :=
  fun _ _ _ hs ⟨row, hg, hr⟩ => hs.to hJ hB h8 hv ⟨row, hg, fun r e => ⟨(hr r e).1, by obtain ⟨cs, hc⟩ := (hr r e).2; exact ⟨_, hc, .inr ⟨cs, rfl⟩⟩⟩⟩
set_option maxHeartbeats 4000000 in
set_option maxRecDepth 100000 in
theorem each_graph (w : World) (B : Nat) (hB : B ≤ w.heap.size) (gf : Nat) (lb : Array Value) (eg : ∀ args w, (callFunc gf args).run Tryz.prog w = .ok (.enter gf args) w)
    (BT : Nat) (hBT : BT ≤ w.heap.size) (k n : Int) (u : Sl) (ps : Fo) (hps : TyV BT w ps (slv u)) (hs : ps.size < 1000000)
    (J : Nat → List Tr → World → Prop) (hJ : ∀ M pre W W', w.heap.size ≤ M → J M pre W → Its M W W' → J M pre W') (h0 : ∀ W, Below w.heap.size w W → J W.heap.size [] W)
    (hv : ∀ (M : Nat) (pre : List Tr) (x : Tr) (W : World), w.heap.size ≤ M → M ≤ W.heap.size → J M pre W → Below B w W → (∃ r, pre ++ x :: r = (grO (.cons k n u ps .nil)).reverse) → Calls Tryz.prog gf (#[trV x] ++ lb) W fun e W' => (∃ v, e = .returned v) ∧ J M (pre ++ [x]) W' ∧ Bt3 B w.heap.size M W W') :
    Calls Tryz.prog 51 #[tyVal k n (slv u), .func (.func gf) #[] lb] w fun e w' => (∃ v, e = .returned v) ∧ (∃ M, w.heap.size ≤ M ∧ M ≤ w'.heap.size ∧ J M (grO (.cons k n u ps .nil)).reverse w') ∧ Below B w w' := by
  obtain ⟨F0, hF0⟩ : ∃ F0, Fo.cons k n u ps .nil = F0 := ⟨_, rfl⟩
  obtain ⟨u1, u2, u3⟩ := u
  dsimp only [tyVal, slv] at hps ⊢
  obtain ⟨w1, hw1⟩ : ∃ w1, w.alloc (.cells #[.int .i64 k, .int .i64 n, .slice u1 u2 u3] 30) = w1 := ⟨_, rfl⟩
  obtain ⟨w2, hw2⟩ : ∃ w2, w1.alloc (.cells #[.func (.func gf) #[] lb] 102) = w2 := ⟨_, rfl⟩
  obtain ⟨w3, hw3⟩ : ∃ w3, w2.alloc (.cells #[.int .i64 k, .int .i64 n, .slice u1 u2 u3] 30) = w3 := ⟨_, rfl⟩
  have hb1 : Below w.heap.size w w1 := by rw [← hw1]; exact (Below.refl _ _).alloc (Nat.le_refl _) _
  have hs1 : w1.heap.size = w.heap.size + 1 := by rw [← hw1]; simp
  have hs2 : w2.heap.size = w.heap.size + 2 := by rw [← hw2]; simp; omega
  have hs3 : w3.heap.size = w.heap.size + 3 := by rw [← hw3]; simp; omega
  have hb2 : Below w.heap.size w w2 := by rw [← hw2]; exact hb1.alloc (by omega) _
  have hb3 : Below w2.heap.size w2 w3 := by rw [← hw3]; exact (Below.refl _ _).alloc (Nat.le_refl _) _
  have hB1 : w1.heap[w.heap.size]? = some (.cells #[.int .i64 k, .int .i64 n, .slice u1 u2 u3] 30) := by rw [← hw1]; exact heap_alloc_new _ _
  have hV2 : w2.heap[w1.heap.size]? = some (.cells #[.func (.func gf) #[] lb] 102) := by rw [← hw2]; exact heap_alloc_new _ _
  have hB2 : w2.heap[w.heap.size]? = some (.cells #[.int .i64 k, .int .i64 n, .slice u1 u2 u3] 30) := by rw [← hw2]; exact (Below.heap_alloc _ _ _ (by omega)).trans hB1
  have hB3 : w3.heap[w2.heap.size]? = some (.cells #[.int .i64 k, .int .i64 n, .slice u1 u2 u3] 30) := by rw [← hw3]; exact heap_alloc_new _ _
  have c0 : w2.cell? ⟨w.heap.size, 0, none⟩ = some (.int .i64 k) := cell_of_row w2 _ 0 _ _ (0, 0) hB2
  have c1 : w2.cell? ⟨w.heap.size, 1, none⟩ = some (.int .i64 n) := cell_of_row w2 _ 1 _ _ (0, 0) hB2
  have c2 : w2.cell? ⟨w.heap.size, 2, none⟩ = some (.slice u1 u2 u3) := cell_of_row w2 _ 2 _ _ (0, 0) hB2
  have hinv : GeInv w2 BT F0 (.slice none 0 0) (.slice (some ⟨w2.heap.size, 0, none⟩) 1 1) w3 (1 + ps.size) := by
    refine ⟨F0, [], by rw [← hF0]; simp [Fo.size], by omega, World.ownsRow_nil _ _ _ _, ?_, fun k h => by simp [Value.ownBlock] at h, ?_, rfl, by simp; omega, hb3⟩
    · rw [← hF0]; exact own_one (u := (u1, u2, u3)) (by omega) hB3 ps
    · rw [← hF0]; exact ⟨hps.below ((hb2.mono hBT).trans (hb3.mono (by omega))), trivial⟩
  have hL0 : (grO F0).length ≤ 1000000 := by rw [← hF0, grO_size]; simp only [Fo.size]; omega
  rw [hF0] at hv ⊢
  have HI := Lib.hid hinv
  have HJ := Lib.hid hJ
  have HV := Lib.hid hv
  have H0 := Lib.hid h0
  have HB2 := Lib.hid hb2
  have HVB := Lib.hid hV2
  have HW3 := Lib.hid hw3
  have HS := Lib.hid (And.intro hs1 (And.intro hs2 hs3))
  clear hinv hJ h0 hv hps hb1 hb2 hb3 hB1 hB2 hB3 hF0 hw3 hs1 hs2 hs3
  refine (callsIn_wide (n := 4)).1 ?_
  refine callsIn_of_wp_marks Tryz.func51 rfl trivial ?_ rfl
  simp only [Tryz.ntmps51, List.size_toArray, List.length_cons, List.length_nil, Nat.reduceAdd, Nat.reduceSub, Array.replicate_succ, Array.replicate_zero, List.push_toArray, List.append_toArray, List.nil_append, List.cons_append]
  gi_wp2
  rw [HW3.out]
  gi_loopw [4, 5] (fun t4 t5 wr => ∃ s, GeInv w2 BT F0 t4 t5 wr s) (fun t4 t5 wr => least (GeInv w2 BT F0 t4 t5 wr))
  case atStart => exact ⟨_, HI.out⟩
  case round =>
    obtain ⟨s, hs⟩ := hrel
    obtain ⟨⟨F, pre, hFs, hsm, o4, o5, hne, hTL, hpre, hlen, hb⟩, _⟩ := least_of hs
    have hsF6 : F.size ≤ 1000000 := by rw [hFs]; exact hsm
    have HFS := Lib.hid hFs
    have HLN := Lib.hid hlen
    have hpl6 : pre.length ≤ 1000001 := by omega
    clear hs hFs hsm hlen
    have hbz := hb.size
    rcases Nat.eq_zero_or_pos F.len with hz0 | hz0
    · have hFn : F = .nil := by cases F with
        | nil => rfl
        | cons => simp [Fo.len] at hz0
      subst hFn
      obtain ⟨A, c, rfl, _, _⟩ := own_form o5
      obtain ⟨A4, c4, rfl, _, _⟩ := own_form o4
      have hpv : pre = grO F0 := by simpa [grO] using hpre
      subst hpv
      have HO4 := Lib.hid o4
      have HB := Lib.hid hb
      clear hb o4 o5 hTL hpre hne
      dsimp only [Fo.len]
      gi_wp2_with (refine ⟨trivial, ?_⟩; gi_at_call 47; refine (callsIn_wide.2 (back_make A4 (grO F0).length c4 _)).mono ?_; rintro e w' ⟨rfl, rfl⟩)
      obtain ⟨w8, hw8⟩ : ∃ w8, wr.alloc (.cells #[.slice A4 (grO F0).length c4] 28) = w8 := ⟨_, rfl⟩
      have hs8 : w8.heap.size = wr.heap.size + 1 := by rw [← hw8]; simp
      have hbr8 : Below wr.heap.size wr w8 := by rw [← hw8]; exact (Below.refl _ _).alloc (Nat.le_refl _) _
      have hbs8 : Boxed w8 wr.heap.size 28 (.slice A4 (grO F0).length c4) := by rw [← hw8]; exact heap_alloc_new _ _
      obtain ⟨hs1, hs2, hs3⟩ := HS.out
      have hb28 : Below w2.heap.size w2 w8 := HB.out.trans (hbr8.mono hbz)
      have hR8 : RdY (fun b => w.heap.size ≤ b ∧ b < w8.heap.size) w8 (.slice A4 (grO F0).length c4) (grO F0) := (own_rdY HO4.out _ fun g hg => by have := HO4.out.lt g hg; omega).below hbr8
      have hi8 : EgI J (grO F0) w B w8.heap.size w1.heap.size (.cells #[.func (.func gf) #[] lb] 102) [] w8 :=
        ⟨H0.out _ (HB2.out.trans (hb28.mono (by omega))), rfl, (HB2.out.mono hB).trans (hb28.mono (by omega)), Nat.le_refl _, (hb28.block _ (by omega)).trans HVB.out⟩
      have hvb : w1.heap.size < w8.heap.size := by omega
      have hw08 : w.heap.size ≤ w8.heap.size := by omega
      rw [hw8]
      clear hw8 hs1 hs2 hs3
      refine wpIn_rangeG (by omega) (gf := 70) (lb := #[.pointer (some ⟨wr.heap.size, 0, none⟩)]) rfl (enters_of Tryz.func70 (by kernel_rfl) rfl)
        (back_seqS 3 (by omega) wr.heap.size (fun b => w.heap.size ≤ b ∧ b < w8.heap.size) (by have := HS.out; omega) 138 A4 c4 (grO F0) hL0 w8 hbs8 hR8) (Below.refl _ _) KpS.t (fun W l o o' _ h h1 _ => KpS.b W l o o' h h1) (fun _ => rfl)
        (EgI J (grO F0) w B w8.heap.size w1.heap.size (.cells #[.func (.func gf) #[] lb] 102)) (fun _ _ _ => False)
        (EgI.own HJ.out hB hw08 hvb) (fun _ _ _ _ _ hs _ _ => hs) (EgI.ab HJ.out hB hw08 hvb) (fun _ _ _ _ hs _ => hs)
        hi8
        (fun x a' W => ∃ Bx, W.heap[Bx]? = some (Obj.cells #[.int .i64 x.2.1, .int .i64 x.2.2.1, slv x.2.2.2] 30) ∧ a' = { tmps := #[.agg #[.int .i64 k, .int .i64 n, .slice u1 u2 u3], .func (.func gf) #[] lb, .pointer (some ⟨w.heap.size, 0, none⟩), .pointer (some ⟨w1.heap.size, 0, none⟩), .slice A4 (grO F0).length c4,
          .slice A 0 c, u6, u7, undef, .pointer (some ⟨Bx, 0, none⟩), .agg #[.int .i64 k, .int .i64 n, .slice u1 u2 u3], .slice (some ⟨w2.heap.size, 0, none⟩) 1 1, .slice A 0 c, .int .i64 0, .bool false, u15, u16, u17, u18, u19, u20, u21, u22, u23, u24, u25, u26, u27, u28, u29, u30, u31,
          .slice A4 (grO F0).length c4, .func (.func 70) #[] #[.pointer (some ⟨wr.heap.size, 0, none⟩)], .int .i64 x.1, trV x.2, undef, undef, undef], defers := [] })
        (fun x a' s W W' row hs hg hr => by
          obtain ⟨Bx, hc, ha⟩ := hs
          refine ⟨Bx, (hg.block Bx (Array.getElem?_eq_some_iff.1 hc).1 fun e => ?_).trans hc, ha⟩
          obtain ⟨o, ho, hoc⟩ := (hr Bx e.symm).2
          rw [hc] at ho
          cases ho
          cases hoc) ?assign ?body ?done ?stop
      case assign =>
        rintro l pre x W K hi hK
        obtain ⟨x0, x1, x2, A3, n3, c3⟩ := x
        dsimp only [trV, slv] at hK ⊢
        have HI := Lib.hid hi
        clear hi
        gi_wp2
        refine hK _ _ ((KeepsOthers.alloc _ _).from _) (fun b _ o ho _ => (Below.heap_alloc _ _ _ (Array.getElem?_eq_some_iff.1 ho).1).trans ho) ?_ ⟨W.heap.size, heap_alloc_new W _, rfl⟩
        exact HI.out.to HJ.out hB hw08 hvb (Its.alloc _ _ _)
      case body =>
        rintro l pre x a' W hl hi ⟨Bx, hc, rfl⟩ ⟨hpl, hx⟩
        subst hx
        have hrl : pre.length < (grO F0).reverse.length := by simpa using hpl
        have hget : (grO F0)[(grO F0).length - 1 - pre.length] = (grO F0).reverse[pre.length] := by rw [List.getElem_reverse]
        have hcall := HV.out w8.heap.size (pre.map (·.2)) ((grO F0)[(grO F0).length - 1 - pre.length]) W hw08 hi.2.2.2.1 hi.1 hi.2.2.1 ⟨(grO F0).reverse.drop (pre.length + 1), by
          rw [hget, hi.2.1, ← List.drop_eq_getElem_cons hrl, List.take_append_drop]⟩
        have hnew : (pre ++ [((((grO F0).length - 1 - pre.length : Nat) : Int), (grO F0)[(grO F0).length - 1 - pre.length])]).map (·.2) = (grO F0).reverse.take (pre ++ [((((grO F0).length - 1 - pre.length : Nat) : Int), (grO F0)[(grO F0).length - 1 - pre.length])]).length := by
          rw [List.map_append, List.length_append, hi.2.1]
          simp only [List.map_cons, List.map_nil, List.length_cons, List.length_nil, hget]
          exact (List.take_succ_eq_append_getElem hrl).symm
        obtain ⟨x, hx⟩ : ∃ x, (grO F0)[(grO F0).length - 1 - pre.length] = x := ⟨_, rfl⟩
        obtain ⟨z, hz⟩ : ∃ z : Int, (((grO F0).length - 1 - pre.length : Nat) : Int) = z := ⟨_, rfl⟩
        rw [hx] at hcall hc hnew ⊢
        rw [hz] at hnew ⊢
        have HX := Lib.hid (And.intro hx hz)
        clear hx hz hget
        obtain ⟨x1, x2, A3, n3, c3⟩ := x
        dsimp only [trV, slv] at hc hcall ⊢
        have v0 : W.cell? ⟨w1.heap.size, 0, none⟩ = some (.func (.func gf) #[] lb) := cell_of_row W _ 0 _ _ (0, 0) hi.2.2.2.2
        have y0 : W.cell? ⟨Bx, 0, none⟩ = some (.int .i64 x1) := cell_of_row W Bx 0 _ _ (0, 0) hc
        have y1 : W.cell? ⟨Bx, 1, none⟩ = some (.int .i64 x2) := cell_of_row W Bx 1 _ _ (0, 0) hc
        have y2 : W.cell? ⟨Bx, 2, none⟩ = some (.slice A3 n3 c3) := cell_of_row W Bx 2 _ _ (0, 0) hc
        have HCALL := Lib.hid hcall
        have HI := Lib.hid hi
        have HN := Lib.hid hnew
        have HRL := Lib.hid (And.intro hrl hpl)
        have HL8 := Lib.hid hl
        clear hcall hi hnew hc hR8 hi8 hbs8 hb28 hbr8 hrl
        gi_wp2_with (refine ⟨trivial, ?_⟩; gi_at_fn gf; refine (CallsIn.inRound l (callsIn_wide.2 HCALL.out)).mono ?_; rintro e w10 ⟨⟨v10, rfl⟩, hj10, hbt⟩)
        obtain ⟨q1, q2, q3, q4, q5⟩ := HI.out
        have hmp : pre.map (·.2) ++ [(x1, x2, A3, n3, c3)] = (pre ++ [(z, x1, x2, A3, n3, c3)]).map (·.2) := by simp
        have hj10' : J w8.heap.size (pre.map (·.2) ++ [(x1, x2, A3, n3, c3)]) w10 := hj10
        refine ⟨⟨hbt.size, fun k o hk ho hc => hbt.same k o hk ho hc⟩, fun b hb o ho _ => (hbt.block b (.inr hb) (Array.getElem?_eq_some_iff.1 ho).1).trans ho, by rw [← hmp]; exact hj10', HN.out, q3.trans (hbt.below (Nat.le_trans hB (Nat.le_trans hw08 q4))), Nat.le_trans q4 hbt.size, (hbt.block _ (.inr ⟨by have := HS.out; omega, hvb⟩) (Nat.lt_of_lt_of_le hvb q4)).trans q5⟩
      case done =>
        rintro D ys W hD hys hi hK
        have hi2 := (EgI.own (J := J) (L := grO F0) (B := B) (vc := .cells #[.func (.func gf) #[] lb] 102) HJ.out hB hw08 hvb).putObj (.deferred none) hi hD hK rfl
        have e : ys.map (·.2) = (grO F0).reverse := hys
        have HI := Lib.hid hi2
        have HE := Lib.hid e
        clear hi hi2 e hys hi8 hbs8 hR8 hb28 hbr8
        gi_wp2
        refine ⟨by simp, .inl ⟨_, _, rfl, run_takeDeferred hK, ?_⟩⟩
        obtain ⟨q1, q2, q3, q4, q5⟩ := HI.out
        rw [HE.out] at q1
        exact ⟨_, results_none rfl _ _ _, ⟨_, rfl⟩, ⟨_, hw08, q4, q1⟩, q3⟩
      case stop =>
        rintro D c pre W _ _ h _
        exact h.elim
    · obtain ⟨q, hq⟩ : ∃ q, F.len = q + 1 := ⟨F.len - 1, by omega⟩
      obtain ⟨a, ca, rfl, ha1, ha2⟩ := own_shape o5 hz0
      obtain ⟨A4, c4, rfl, _, _⟩ := own_form o4
      obtain ⟨F', fk, fn, ⟨f1, f2, f3⟩, fps, hFe, hFl⟩ := F.last q hq
      subst hFe
      rw [hq] at o5 HFS HLN ⊢
      obtain ⟨e0, e1, e2, ownF⟩ := last_cells hFl o5
      rw [hFl] at ownF
      dsimp only [slv] at e2
      obtain ⟨hT1, hT2⟩ := hTL.unapp
      have hsF : (F'.app (.cons fk fn (f1, f2, f3) fps .nil)).size = F'.size + (1 + fps.size) := by rw [Fo.size_app]; simp [Fo.size]
      have hlf := fps.len_le_size
      have hln : f2 = fps.len := TyV.len (u := (f1, f2, f3)) hT2.1
      subst hln
      have hvs : grO (F'.app (.cons fk fn (f1, fps.len, f3) fps .nil)) = (fk, fn, (f1, fps.len, f3)) :: (grO fps ++ grO F') := by
        rw [grO_app]; simp [grO]
      rw [hvs] at hpre
      have hql : q ≤ 1000000 := by have := (F'.app (.cons fk fn (f1, fps.len, f3) fps .nil)).len_le_size; omega
      have hz0' : (0 : Int) ≤ (q : Int) := by omega
      have hcp : q + 1 ≤ ca := by
        obtain ⟨_, _, hv, h1, _⟩ := own_form o5
        injection hv with _ _ h3
        omega
      have hz : decide ((q : Int) ≤ (ca : Int)) = true := by simp; omega
      have hq1 : ((q + 1 : Nat) : Int) - 1 = (q : Int) := by omega
      -- the box, the list of one, the append
      obtain ⟨w4, hw4⟩ : ∃ w4, (wr.alloc (.cells #[.int .i64 fk, .int .i64 fn, .slice f1 fps.len f3] 30)).alloc (.cells #[.int .i64 fk, .int .i64 fn, .slice f1 fps.len f3] 30) = w4 := ⟨_, rfl⟩
      have hs4 : w4.heap.size = wr.heap.size + 2 := by rw [← hw4]; simp
      have hb4 : Below wr.heap.size wr w4 := by rw [← hw4]; exact ((Below.refl _ _).alloc (Nat.le_refl _) _).alloc (by simp) _
      have hx4 : w4.heap[wr.heap.size]? = some (.cells #[.int .i64 fk, .int .i64 fn, .slice f1 fps.len f3] 30) := by rw [← hw4]; exact (Below.heap_alloc _ _ _ (by simp)).trans (heap_alloc_new _ _)
      have hy4 : w4.heap[wr.heap.size + 1]? = some (.cells #[.int .i64 fk, .int .i64 fn, .slice f1 fps.len f3] 30) := by
        rw [← hw4]
        have := heap_alloc_new (wr.alloc (.cells #[.int .i64 fk, .int .i64 fn, .slice f1 fps.len f3] 30)) (.cells #[.int .i64 fk, .int .i64 fn, .slice f1 fps.len f3] 30)
        rwa [World.size_alloc] at this
      have o44 : w4.ownsRow w2.heap.size 30 3 (.slice A4 pre.length c4) pre.length (pre.flatMap trC) := by rw [← hw4]; exact (o4.alloc _).alloc _
      have o54 : w4.ownsRow w2.heap.size 30 3 (.slice (some ⟨a, 0, none⟩) q ca) q (F'.top.flatMap trC) := by rw [← hw4]; exact (ownF.alloc _).alloc _
      have rd4 : Rd w4 3 (.slice (some ⟨wr.heap.size + 1, 0, none⟩) 1 1) 1 (trC (fk, fn, (f1, fps.len, f3))) := by
        refine ⟨rfl, .inr ⟨_, 0, 1, rfl, Nat.le_refl _, by unfold maxLen; omega, by omega, fun j u hu => ?_⟩⟩
        have hj : j < 3 := (List.getElem?_eq_some_iff.1 hu).1
        rw [cell_of_row w4 (wr.heap.size + 1) (0 + j) _ _ (0, 0) hy4]
        rcases (by omega : j = 0 ∨ j = 1 ∨ j = 2) with rfl | rfl | rfl <;> simpa [trC, slv] using hu
      obtain ⟨v4, w6, run6, o6, b6, g6, at6⟩ := app_one w4 w2.heap.size (.slice A4 pre.length c4) pre o44 _ _ rd4 (by omega) (by omega)
      have x6 : w6.heap[wr.heap.size]? = some (.cells #[.int .i64 fk, .int .i64 fn, .slice f1 fps.len f3] 30) := (g6.block _ (by omega) (fun e => by have := (o4.lt _ e.symm).2; omega)).trans hx4
      have i2 : w6.cell? ⟨wr.heap.size, 2, none⟩ = some (.slice f1 fps.len f3) := cell_of_row w6 _ 2 _ _ (0, 0) x6
      have o56 : w6.ownsRow w2.heap.size 30 3 (.slice (some ⟨a, 0, none⟩) q ca) q (F'.top.flatMap trC) := o54.kept g6 (.inr fun e => hne a e.symm rfl)
      have hz6 := b6.size
      have hS2 := HS.out.2.1
      have bB : Below BT wr w6 := (hb4.mono (by omega)).trans (b6.mono (by omega))
      have hF1 := hT1.below bB
      have hF2 := hT2.1.below bB
      have n6 : ∀ k, v4.ownBlock = some k → a ≠ k := by
        intro k h e
        subst e
        rcases at6 with h2 | h2
        · exact hne a (h2.symm.trans h) rfl
        · rw [h2] at h; injection h with h; omega
      obtain ⟨v7, w7, run7, o7, b7, g7, at7⟩ := app_ty w6.drew w2.heap.size (.slice (some ⟨a, 0, none⟩) q ca) F' (by rw [hFl]; exact o56) (.slice f1 fps.len f3) fps (TyV.rd3 (B := BT) (by have := HS.out; simp only [World.drew]; omega) (hF2.below (Below.refl _ _).drew)) (by omega) (by simp only [World.drew]; omega)
      have e4 : w4.cell? ⟨wr.heap.size, 0, none⟩ = some (.int .i64 fk) := cell_of_row w4 _ 0 _ _ (0, 0) hx4
      have HX := Lib.hid (And.intro o6 (And.intro o7 (And.intro b6 (And.intro b7 (And.intro g7 (And.intro at7 (And.intro n6 (And.intro hF1 hF2))))))))
      have HPRE := Lib.hid hpre
      have hw4b := Lib.hid hb4
      have HSF := Lib.hid hsF
      have HBW := Lib.hid hb
      have HQ := Lib.hid (And.intro hs4 (And.intro hz6 (And.intro hbz hFl)))
      clear o6 o7 b6 b7 g6 g7 at6 at7 n6 hF1 hF2 hpre hsF hb hs4 hz6 hbz hFl o4 o44 o5 o54 o56 ownF rd4 hx4 hy4 hb4 hTL hT1 hT2 hne hvs hq hz0 bB x6 hS2
      gi_wp2
      have hmix : Tryz.prog.follows Departure.mixedOrders = true := by kernel_rfl
      have i2d : w6.drew.cell? ⟨wr.heap.size, 2, none⟩ = some (.slice f1 fps.len f3) := i2
      clear i2 e4 run6
      refine Code.wpIn_mono NoPanic.imp ?_
      gi_region_with_o (fail)
      all_goals
        refine NoPanic.normal ?_
        obtain ⟨o6, o7, b6, b7, g7, at7, n6, hF1, hF2⟩ := HX.out
        obtain ⟨hs4, hz6, hbz, hFl⟩ := HQ.out
        have hpre := HPRE.out
        have hb7 : Below w2.heap.size wr w7 := ((hw4b.out.mono hbz).trans b6).trans ((Below.refl _ _).drew.trans b7)
        have hfin : GeInv w2 BT F0 v4 v7 w7 (F'.size + fps.size) := by
          have hn4 : v4.ownBlock = none ∨ v4.ownBlock ≠ (Value.slice (some ⟨a, 0, none⟩) q ca).ownBlock := by
            cases h4 : v4.ownBlock with
            | none => exact .inl rfl
            | some k => exact .inr fun e => n6 k h4 (by injection e with e; exact e.symm)
          have hb7B : Below BT w6.drew w7 := b7.mono (by have := HS.out; omega)
          refine ⟨F'.app fps, pre ++ [(fk, fn, (f1, fps.len, f3))], by rw [Fo.size_app], by have := HSF.out; omega, ?_, o7, ?_, (hF1.below ((Below.refl _ _).drew.trans hb7B)).app ((TyV.list hF2).below ((Below.refl _ _).drew.trans hb7B)), ?_, ?_, HBW.out.trans hb7⟩
          · exact World.ownsRow.kept (w := w6.drew) o6 g7 hn4
          · intro k h4 h7
            rcases at7 with h | h
            · exact n6 k h4 (by rw [h] at h7; injection h7 with h7)
            · rw [h] at h7
              injection h7 with h7
              have := (o6.lt k h4).2
              simp only [World.drew] at h7
              omega
          · rw [grO_app, List.append_assoc]
            exact hpre
          · have := HLN.out
            have := HFS.out
            have := HSF.out
            simp only [List.length_append, List.length_cons, List.length_nil]
            omega
        have HF := Lib.hid hfin
        clear hfin o6 o7 b6 b7 g7 at7 n6 hF1 hF2 hs4 hz6 hbz hFl hpre hb7
        go_simp
        gi_wp2
        go_roundw
        case rel => exact ⟨_, HF.out⟩
        case measure =>
          have h1 := HFS.out
          have h2 := HSF.out
          refine Nat.lt_of_lt_of_le (Nat.lt_of_le_of_lt (least_of HF.out).2 ?_) (Nat.le_of_eq h1)
          omega
end Go.Proofs.YtbnpmeaaaecciaaGreat
/- An argument that is a slice of types, opened. -/
namespace Go.Proofs.YtbnpmeaaaecciaaGreat
open Go.RowKit Go.ChangeShapes Go.WideShapes Go.ChangeAt Go.Deep

namespace Fo
/-- Each number is one that an int may be. -/
def wf : Fo → Prop
  | nil => True
  | cons _ n _ ps r => (Lit.int .i64 n).wf = true ∧ ps.wf ∧ r.wf
theorem wf_app {f g : Fo} (h : f.wf) (k : g.wf) : (f.app g).wf := by
  induction f with
  | nil => exact k
  | cons _ _ _ _ r _ ih => exact ⟨h.1, h.2.1, ih h.2.2⟩
end Fo
theorem listOf {α : Type} (P : Nat → α → Prop) (n : Nat) (h : ∀ i, i < n → ∃ t, P i t) : ∃ ts : List α, ts.length = n ∧ ∀ i (hi : i < ts.length), P i ts[i] := by
  induction n with
  | zero => exact ⟨[], rfl, by simp⟩
  | succ n ih =>
    obtain ⟨ts, hl, hP⟩ := ih (fun i hi => h i (by omega))
    obtain ⟨t, ht⟩ := h n (by omega)
    refine ⟨ts ++ [t], by simp [hl], fun i hi => ?_⟩
    rcases Nat.lt_or_ge i ts.length with hlt | hge
    · rw [List.getElem_append_left hlt]; exact hP i hlt
    · have : i = ts.length := by simp at hi; omega
      subst this
      have e : (ts ++ [t])[ts.length] = t := by simp
      rw [e, hl]
      exact ht
def foOf : List (Int × Int × Sl × Fo) → Fo
  | [] => .nil
  | t :: r => .cons t.1 t.2.1 t.2.2.1 t.2.2.2 (foOf r)
theorem foOf_len (ts : List (Int × Int × Sl × Fo)) : (foOf ts).len = ts.length := by
  induction ts with
  | nil => rfl
  | cons t r ih => simp [foOf, Fo.len, ih]
theorem foOf_wf (ts : List (Int × Int × Sl × Fo)) (h : ∀ i (hi : i < ts.length), (Lit.int .i64 ts[i].2.1).wf = true ∧ ts[i].2.2.2.wf) : (foOf ts).wf := by
  induction ts with
  | nil => trivial
  | cons t r ih =>
    have h0 := h 0 (by simp)
    exact ⟨h0.1, h0.2, ih fun i hi => by have := h (i + 1) (by simp; omega); simpa using this⟩
theorem foOf_cells {B : Nat} {w : World} {b : Nat} (ts : List (Int × Int × Sl × Fo)) (off : Nat)
    (h : ∀ i (hi : i < ts.length), w.cell? ⟨b, off + i * 3, none⟩ = some (.int .i64 ts[i].1) ∧ w.cell? ⟨b, off + i * 3 + 1, none⟩ = some (.int .i64 ts[i].2.1) ∧ w.cell? ⟨b, off + i * 3 + 2, none⟩ = some (slv ts[i].2.2.1) ∧ TyV B w ts[i].2.2.2 (slv ts[i].2.2.1)) : TyC B w (foOf ts) b off := by
  induction ts generalizing off with
  | nil => exact tyC_nil
  | cons t r ih =>
    have h0 := h 0 (by simp)
    simp only [Nat.zero_mul, Nat.add_zero, List.getElem_cons_zero] at h0
    refine tyC_cons.2 ⟨h0.1, h0.2.1, h0.2.2.1, h0.2.2.2, ih (off + 3) fun i hi => ?_⟩
    have h1 := h (i + 1) (by simp; omega)
    simp only [List.getElem_cons_succ] at h1
    rw [show off + 3 + i * 3 = off + (i + 1) * 3 by omega]
    exact h1
set_option maxRecDepth 100000 in
theorem types_read {H : Type} {enc : TypeId × Value → H} {W : World} (fuel : Nat) : ∀ (v : Value) (x : DataW H × List MemPlace), DataW.trod enc Tryz.prog W 0 (fun _ => true) true fuel 28 [v] = some x → ∃ (F : Fo) (u : Sl), v = slv u ∧ TyV W.heap.size W F v ∧ F.wf := by
  induction fuel using Nat.strongRecOn with
  | ind fuel ih =>
    intro v x h
    rcases DataW.trod_slice Tryz.underlying28 h with ⟨hcs, _⟩ | ⟨a, len, cap, elems, rest, n, hfu, hcs, _, _, hl, hm, hlen, hel, _, _⟩
    · simp at hcs
      subst hcs
      exact ⟨.nil, (none, 0, 0), rfl, tyV_nil.2 ⟨none, 0, rfl⟩, trivial⟩
    · simp at hcs
      subst hcs
      have hC : Tryz.prog.cellsOf 30 = 3 := by kernel_rfl
      have hI : Tryz.prog.cellsOf 3 = 1 := by kernel_rfl
      have hS : Tryz.prog.cellsOf 28 = 1 := by kernel_rfl
      rw [hC] at hel
      have key : ∀ i, i < len → ∃ t : Int × Int × Sl × Fo, W.cell? (a.add (i * 3)) = some (.int .i64 t.1) ∧ W.cell? ((a.add (i * 3)).add 1) = some (.int .i64 t.2.1) ∧ W.cell? ((a.add (i * 3)).add 2) = some (slv t.2.2.1) ∧ TyV W.heap.size W t.2.2.2 (slv t.2.2.1) ∧ (Lit.int .i64 t.2.1).wf = true ∧ t.2.2.2.wf := by
        intro i hil
        have he := hel i hil
        rw [List.getElem?_eq_getElem (by omega)] at he
        obtain ⟨cs', hc, ht'⟩ := Option.bind_eq_some_iff.1 he
        obtain ⟨ys, n', hn', _, hlen2, hyl, hfld⟩ := DataW.trod_struct Tryz.underlying30 ht'
        rw [hC] at hlen2
        obtain ⟨_, hcl, hat⟩ := World.cells?_some hc
        have q0 : DataW.trod enc Tryz.prog W 0 (fun _ => true) true n' 3 ((cs'.drop 0).take (Tryz.prog.cellsOf 3)) = ys[0]? := hfld 0 _ rfl
        have q1 : DataW.trod enc Tryz.prog W 0 (fun _ => true) true n' 3 ((cs'.drop 1).take (Tryz.prog.cellsOf 3)) = ys[1]? := hfld 1 _ rfl
        have q2 : DataW.trod enc Tryz.prog W 0 (fun _ => true) true n' 28 ((cs'.drop 2).take (Tryz.prog.cellsOf 28)) = ys[2]? := hfld 2 _ rfl
        have hyl' : ys.length = 3 := hyl
        rw [hI, List.getElem?_eq_getElem (by omega)] at q0
        rw [hI, List.getElem?_eq_getElem (by omega)] at q1
        rw [hS, List.getElem?_eq_getElem (by omega)] at q2
        obtain ⟨k0, hk0, _, _⟩ := DataW.trod_int Tryz.underlying3 q0
        obtain ⟨k1, hk1, _, hw1⟩ := DataW.trod_int Tryz.underlying3 q1
        match cs', hlen2 with
        | [c0, c1, c2], _ =>
          obtain ⟨F, u, hu, hF, hFw⟩ := ih n' (by omega) c2 _ q2
          simp at hk0 hk1
          subst hk0; subst hk1; subst hu
          refine ⟨(k0, k1, u, F), ?_, ?_, ?_, hF, hw1, hFw⟩
          · have := hat 0 (by omega)
            simpa [Addr.add] using this
          · exact hat 1 (by omega)
          · exact hat 2 (by omega)
      by_cases h0 : len = 0
      · subst h0
        exact ⟨.nil, (some a, 0, cap), rfl, tyV_nil.2 ⟨_, _, rfl⟩, trivial⟩
      · obtain ⟨b, off, spot⟩ := a
        obtain ⟨t0, hc0, _⟩ := key 0 (by omega)
        have hspot : spot = none := by simpa [Addr.add] using World.cell?_spot hc0
        subst hspot
        have hb : b < W.heap.size := by simpa [Addr.add] using World.block_lt_of_cell? _ _ hc0
        obtain ⟨ts, htl, hP⟩ := listOf _ len key
        have hTC : TyC W.heap.size W (foOf ts) b off := foOf_cells ts off fun i hi => by
          have hP2 := hP i hi
          simp only [Addr.add_lit] at hP2
          exact ⟨hP2.1, hP2.2.1, hP2.2.2.1, hP2.2.2.2.1⟩
        have hWF : (foOf ts).wf := foOf_wf ts fun i hi => (hP i hi).2.2.2.2
        cases ts with
        | nil => simp at htl; omega
        | cons t r =>
          refine ⟨foOf (t :: r), (some ⟨b, off, none⟩, len, cap), rfl, tyV_cons.2 ⟨b, off, cap, ?_, ?_, hm, hb, hTC⟩, hWF⟩
          · rw [foOf_len, ← htl]; rfl
          · rw [foOf_len]; simp at htl; omega
theorem ArgTy_open {H : Type} {enc : TypeId × Value → H} {W : World} {v : Value} {d : DataW H} {p : List MemPlace}
    (h : DataW.Trod enc Tryz.prog W 0 (fun _ => true) true 28 v d p) (hc : v.cells = #[v]) : ∃ F, TyV W.heap.size W F v := by
  obtain ⟨fuel, hf⟩ := h
  rw [hc] at hf
  obtain ⟨F, _, _, hF, _⟩ := types_read fuel v _ hf
  exact ⟨F, hF⟩
end Go.Proofs.YtbnpmeaaaecciaaGreat
/- Maps whose keys are numbers: what keys them. -/
namespace Go.Proofs.YtbnpmeaaaecciaaGreat
open Go.RowKit Go.Shelf Go.Maps Go.WideShapes
theorem lawI : Keyed Tryz.prog 3 := int_keyed Tryz.underlying3
end Go.Proofs.YtbnpmeaaaecciaaGreat
/- Maps from numbers that a call made, told as functions: whatever their elements are. -/
namespace Go.Proofs.YtbnpmeaaaecciaaGreat
open Go.RowKit Go.Shelf Go.Maps Go.WideShapes Go.ChangeMaps Go.MapKept

/-- How an element reads: as it is. -/
def heldE (v : Value) : Option (DataW Value × List MemPlace) := some (.held v, [])
/-- A map's type: its keys are numbers, its elements have that zero. -/
structure MapTy (mt e : TypeId) (z : Value) : Prop where
  und : Tryz.prog.underlying mt = some (.map 3 e)
  zero : ∀ w, (zeroValue e).run Tryz.prog w = .ok z w
/-- One more. -/
def upd (f : Int → Option Value) (n : Int) (v : Value) : Int → Option Value := fun m => if m = n then some v else f m
/-- A map that has these, so many, laid by at most so many stores. -/
def MapF (f : Int → Option Value) (S L b : Nat) (W : World) : Prop :=
  ∃ (k : Nat) (D : DataW Value), W.ownsMap Tryz.prog 3 heldE b k D ∧ k ≤ L ∧ Tidy D ∧ Maps.size D = S ∧ ∀ n : Int, (Lit.int .i64 n).wf = true → has D (.int .i64 n) = (f n).isSome ∧ ∀ z, D.atKey (.int .i64 n) (.held z) = .held ((f n).getD z)
theorem MapF.made (w : World) : MapF (fun _ => none) 0 0 w.heap.size (w.alloc (.map #[] 0)) := ⟨0, .map [], World.ownsMap_made _ _ _ _, Nat.le_refl _, tidy_empty, rfl, fun _ _ => ⟨rfl, fun _ => rfl⟩⟩
theorem MapF.kept {f : Int → Option Value} {S L b : Nat} {W W' : World} {row : Option Nat} (h : MapF f S L b W) (hg : W.grownBy W' row) (hne : some b ≠ row) : MapF f S L b W' := by
  obtain ⟨k, D, h1, h2⟩ := h
  exact ⟨k, D, h1.kept hg hne, h2⟩
theorem MapF.block {f : Int → Option Value} {S L b : Nat} {W W' : World} (h : MapF f S L b W) (hb : W'.heap[b]? = W.heap[b]?) : MapF f S L b W' := by
  obtain ⟨k, D, ⟨es, ck, h1, h3⟩, h2⟩ := h
  exact ⟨k, D, ⟨es, ck, hb.trans h1, h3⟩, h2⟩
theorem MapF.lt {f : Int → Option Value} {S L b : Nat} {W : World} (h : MapF f S L b W) : b < W.heap.size := by obtain ⟨_, _, h1, _⟩ := h; exact h1.lt
theorem MapF.below {f : Int → Option Value} {S L b : Nat} {W W' : World} (h : MapF f S L b W) (hb : Below W.heap.size W W') : MapF f S L b W' := h.block (hb.block b h.lt)
theorem MapF.le {f : Int → Option Value} {S L L' b : Nat} {W : World} (h : MapF f S L b W) (hl : L ≤ L') : MapF f S L' b W := by
  obtain ⟨k, D, h1, h2, h3⟩ := h
  exact ⟨k, D, h1, Nat.le_trans h2 hl, h3⟩
theorem MapF.ext {f g : Int → Option Value} {S L b : Nat} {W : World} (h : MapF f S L b W) (he : ∀ n, (Lit.int .i64 n).wf = true → f n = g n) : MapF g S L b W := by
  obtain ⟨k, D, h1, h2, h3, h4, h5⟩ := h
  exact ⟨k, D, h1, h2, h3, h4, fun n hn => by rw [← he n hn]; exact h5 n hn⟩
theorem MapF.look {f : Int → Option Value} {S L b : Nat} {W : World} (h : MapF f S L b W) {mt e : TypeId} {z : Value} (M : MapTy mt e z) (n : Int) (hn : (Lit.int .i64 n).wf = true) : (Instr.lookup mt (.map (some b)) (.int .i64 n) false).run Tryz.prog W = .ok ((f n).getD z) W := by
  obtain ⟨k, D, h1, _, _, _, h3⟩ := h
  obtain ⟨v, ps, hrun, hv⟩ := h1.lookup lawI M.und (M.zero W) (zd := .held z) (zp := []) rfl (keyOf_int_mk Tryz.underlying3 hn)
  rw [(h3 n hn).2] at hv
  simp only [heldE, Option.some.injEq, Prod.mk.injEq, DataW.held.injEq] at hv
  rw [hrun, hv.1]
theorem MapF.look_ok {f : Int → Option Value} {S L b : Nat} {W : World} (h : MapF f S L b W) {mt e : TypeId} {z : Value} (M : MapTy mt e z) (n : Int) (hn : (Lit.int .i64 n).wf = true) : (Instr.lookup mt (.map (some b)) (.int .i64 n) true).run Tryz.prog W = .ok (.tuple #[(f n).getD z, .bool (f n).isSome]) W := by
  obtain ⟨k, D, h1, _, _, _, h3⟩ := h
  obtain ⟨v, ps, hrun, hv⟩ := h1.look_ok lawI M.und (M.zero W) (zd := .held z) (zp := []) rfl (keyOf_int_mk Tryz.underlying3 hn)
  rw [(h3 n hn).2] at hv
  simp only [heldE, Option.some.injEq, Prod.mk.injEq, DataW.held.injEq] at hv
  rw [hrun, hv.1, (h3 n hn).1]
theorem MapF.len {f : Int → Option Value} {S L b : Nat} {W : World} (h : MapF f S L b W) {mt e : TypeId} {z : Value} (M : MapTy mt e z) (ty : TypeId) : (Builtin.len_ #[mt] ty #[.map (some b)]).run Tryz.prog W = .ok (.int .i64 S) W := by
  obtain ⟨k, D, h1, _, _, h2, _⟩ := h
  have := h1.len M.und ty
  rwa [h2] at this
theorem MapF.put {f : Int → Option Value} {S L b : Nat} {W : World} (h : MapF f S L b W) {mt e : TypeId} {z : Value} (M : MapTy mt e z) (hl : L ≤ 1000000000) (n : Int) (hn : (Lit.int .i64 n).wf = true) (v : Value) :
    ∃ W', (Instr.mapUpdate mt (.map (some b)) (.int .i64 n) v).run Tryz.prog W = .ok () W' ∧ MapF (upd f n v) (if (f n).isSome then S else S + 1) (L + 1) b W' ∧ W.grownBy W' (some b) ∧ (∀ i, i ≠ b → W'.heap[i]? = W.heap[i]?) ∧ W'.heap.size = W.heap.size := by
  obtain ⟨k, D, h1, h2, ht, hs, h3⟩ := h
  obtain ⟨w', hrun, ho, hg⟩ := h1.store lawI M.und (by unfold maxLen; omega) (keyOf_int_mk Tryz.underlying3 hn) (val := v) (d := .held v) (ps := []) rfl
  refine ⟨w', hrun, ⟨k + 1, _, ho, by omega, ht.put (by trivial) _, ?_, fun m hm2 => ?_⟩, hg.grown, ?_, ?_⟩
  · rw [size_put ht, (h3 n hn).1, hs]
  · by_cases e : m = n
    · subst e
      exact ⟨by rw [has_put_same ht.isMap (by trivial)]; simp [upd], fun z => by rw [atKey_put_same ht.isMap (by trivial)]; simp [upd]⟩
    · have hne : (Lit.int .i64 m) ≠ .int .i64 n := by simpa using e
      exact ⟨by rw [has_put_other hne, (h3 m hm2).1]; simp [upd, e], fun z => by rw [atKey_put_other hne, (h3 m hm2).2]; simp [upd, e]⟩
  · obtain ⟨es, ck, es', ck', hb, rfl⟩ := hg
    exact fun i hi => heap_setBlock_other hb _ hi
  · obtain ⟨es, ck, es', ck', hb, rfl⟩ := hg
    simp [setBlock]
/-- Nothing is found in a map that isn't there. -/
theorem nil_look {mt e : TypeId} {z : Value} (M : MapTy mt e z) (W : World) (n : Int) (hn : (Lit.int .i64 n).wf = true) (c : Bool) : (Instr.lookup mt (.map none) (.int .i64 n) c).run Tryz.prog W = .ok (if c then .tuple #[z, .bool false] else z) W :=
  look_nil c lawI M.und (M.zero W) (keyOf_int_mk Tryz.underlying3 hn)
theorem zeroInt (w : World) : (zeroValue 3).run Tryz.prog w = .ok (.int .i64 0) w := by kernel_rfl
theorem intsTy : MapTy 61 3 (.int .i64 0) := ⟨Tryz.underlying61, zeroInt⟩
end Go.Proofs.YtbnpmeaaaecciaaGreat
/- A graph's nodes, as a list; what a type's node is. -/
namespace Go.Proofs.YtbnpmeaaaecciaaGreat
open Go.RowKit Go.Shelf Go.Maps Go.WideShapes
/-- A node: its kind, its name, its type's size, its parts. -/
abbrev Gn := Int × Int × Nat × List Nat
/-- A variable's node. -/
def gvar : List Gn → Int → Option Nat
  | [], _ => none
  | x :: G, n => if x.1 = 1 ∧ x.2.1 = n then some 0 else (gvar G n).map (· + 1)
theorem gvar_snoc (G : List Gn) (x : Gn) (n : Int) : gvar (G ++ [x]) n = match gvar G n with
    | some i => some i
    | none => if x.1 = 1 ∧ x.2.1 = n then some G.length else none := by
  induction G with
  | nil =>
    simp only [List.nil_append, gvar, Option.map_none, List.length_nil]
  | cons y G ih =>
    simp only [List.cons_append, gvar]
    split
    · rfl
    · rw [ih]
      cases gvar G n with
      | some i => rfl
      | none =>
        simp only [Option.map_none, List.length_cons]
        split <;> rfl
theorem gvar_lt {G : List Gn} {n : Int} {i : Nat} (h : gvar G n = some i) : i < G.length := by
  induction G generalizing i with
  | nil => cases h
  | cons x G ih =>
    simp only [gvar] at h
    split at h
    · cases h; simp
    · obtain ⟨j, hj, rfl⟩ := Option.map_eq_some_iff.1 h
      have := ih hj
      simp; omega
/-- The variables' nodes, as the map has them. -/
def gvf (G : List Gn) : Int → Option Value := fun n => (gvar G n).map fun i => .int .i64 i
theorem gvf_snoc_var (G : List Gn) (n : Int) (s : Nat) (P : List Nat) (h : gvar G n = none) : gvf (G ++ [(1, n, s, P)]) = upd (gvf G) n (.int .i64 G.length) := by
  funext m
  simp only [gvf, upd, gvar_snoc]
  by_cases e : m = n
  · subst e; rw [h]; simp
  · cases gvar G m with
    | some i => simp [e]
    | none => simp [Ne.symm e]; intro h; exact absurd h e
theorem gvf_snoc_other (G : List Gn) (k n : Int) (s : Nat) (P : List Nat) (h : k ≠ 1) : gvf (G ++ [(k, n, s, P)]) = gvf G := by
  funext m
  simp only [gvf, gvar_snoc]
  cases gvar G m with
  | some i => rfl
  | none => simp [h]
/-- How great the parts' types are together. -/
def gsum (G : List Gn) (P : List Nat) : Nat := (P.map fun p => (G[p]?.map (·.2.2.1)).getD 0).sum
/-- The node of a type whose parts have these. -/
def gnode (G : List Gn) (k n : Int) (P : List Nat) : List Gn × Nat :=
  match (if k = 1 then gvar G n else none) with
  | some i => (G, i)
  | none => (G ++ [(k, n, 1 + gsum G P, P)], G.length)
mutual
/-- A type's node. -/
def gadd1 (G : List Gn) (k n : Int) (ps : Fo) : List Gn × Nat := let r := gadd G ps; gnode r.1 k n r.2
/-- Those of some types. -/
def gadd (G : List Gn) : Fo → List Gn × List Nat
  | .nil => (G, [])
  | .cons k n _ ps r => let x := gadd1 G k n ps; let y := gadd x.1 r; (y.1, x.2 :: y.2)
end
/-- What one that is visited does to the nodes, and to the parts that have no type yet. -/
def gstep (s : List Gn × List Nat) (x : Tr) : List Gn × List Nat :=
  let m := s.2.length - x.2.2.2.1
  let r := gnode s.1 x.1 x.2.1 (s.2.drop m)
  (r.1, s.2.take m ++ [r.2])
end Go.Proofs.YtbnpmeaaaecciaaGreat
