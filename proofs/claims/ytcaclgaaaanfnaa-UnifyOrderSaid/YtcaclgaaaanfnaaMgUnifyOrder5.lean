/- Texts of one proof, one behind the other. -/
import Derived.Test.YtcaclgaaaanfnaaMgUnifyOrder4
/- types.all's function: types and all that they are made of, each ahead of its parts. -/
namespace Go.Proofs.Ytcaclgaaaanfnaa
open Go.RowKit Go.Shelf
attribute [local go_sem] Oper.semAt_some

/-- The least number of its kind. -/
noncomputable def least (p : Nat → Prop) : Nat := Classical.epsilon fun k => p k ∧ ∀ j, p j → k ≤ j
theorem least_of {p : Nat → Prop} {k : Nat} (h : p k) : p (least p) ∧ least p ≤ k := by
  have hex : ∃ k, p k ∧ ∀ j, p j → k ≤ j := by
    induction k using Nat.strongRecOn with
    | ind k ih =>
      by_cases hk : ∃ j, j < k ∧ p j
      · obtain ⟨j, hj, hp⟩ := hk
        exact ih j hj hp
      · exact ⟨k, h, fun j hp => Nat.le_of_not_lt fun hlt => hk ⟨j, hlt, hp⟩⟩
  have := Classical.epsilon_spec hex
  exact ⟨this.1, this.2 k h⟩
/-- Between two rounds: what is left lies on the stack. -/
def AllInv (W : World) (B : Nat) (f : Fo) (J : List Tr → World → Prop) (i : Value) (wr : World) (k : Nat) : Prop :=
  ∃ (R : Fo) (pre : List Tr), R.size = k ∧ wr.ownsRow W.heap.size 36 3 i R.len (stk R) ∧ TyL B wr R ∧ pre ++ R.pre = f.pre ∧ J pre wr ∧ Below B W wr ∧ W.heap.size ≤ wr.heap.size
set_option maxRecDepth 100000 in
set_option maxHeartbeats 2000000 in
theorem all1 (n_ : Nat) (hn : 1 ≤ n_) (l Bs B : Nat) (vl : Value) (f : Fo) (hf : f.size ≤ 1000000) (J Jx : List Tr → World → Prop) (W : World) (hB : B ≤ W.heap.size) 
    (hJ : AbC W.heap.size 36 J)
    (hY : ∀ pre x W, J pre W → pre.length < f.size → YieldAt Fence.wide (n_ - 1) Try.prog l #[trV x] W fun e W' =>
      (e = .returned (.bool true) ∧ J (pre ++ [x]) W' ∧ KpC B W W') ∨ (e = .returned (.bool false) ∧ Jx (pre ++ [x]) W'))
    (hBs : Boxed W Bs 34 vl) (hR : RdX W.heap.size W vl f.top) (hL0 : TyL B W f) (h0 : J [] W) :
    CallsIn Fence.wide n_ Try.prog 98 #[.func (.yield l) #[] #[], .pointer (some ⟨Bs, 0, none⟩)] W fun e W' => (∃ v, e = .returned v) ∧
      ((∃ ys : List Tr, ys = f.pre ∧ J ys W') ∨ (∃ pre, (pre ≠ [] ∧ ∃ s, pre ++ s = f.pre) ∧ Jx pre W')) := by
  refine callsIn_of_wp Try.func98 rfl trivial ?_ rfl
  simp only [Try.ntmps98, List.size_toArray, List.length_cons, List.length_nil, Nat.reduceAdd, Nat.reduceSub, Array.replicate_succ, Array.replicate_zero, List.push_toArray, List.append_toArray, List.nil_append, List.cons_append]
  have e00 : W.cell? ⟨Bs, 0, none⟩ = some vl := hBs.cell
  obtain ⟨A, c, hv, _⟩ := id hR
  have HBS := Lib.hid hBs
  have HV := Lib.hid hv
  clear hBs hv
  have own0 : W.ownsRow W.heap.size 36 3 (.slice none 0 0) 0 [] := ⟨rfl, .inl ⟨rfl, rfl⟩⟩
  gi_wp2_with (refine ⟨trivial, ?_⟩; gi_at_call 99)
  refine (callsIn_wide.2 (backs_any W W.heap.size W.heap.size (.slice none 0 0) vl [] 0 f.top own0 (Nat.le_refl _) (Nat.le_refl _) hR (by rw [Fo.top_len]; exact Nat.le_trans f.len_le_size hf) (by omega))).mono ?_
  rintro e w0 ⟨v0, rfl, hown0, hg0, _⟩
  have hinv : AllInv W B f J v0 w0 f.size := by
    refine ⟨f, [], rfl, ?_, hL0.below ((Below.refl _ _).grown hg0 hB (fun k e => by cases e)), rfl, hJ _ _ _ h0 ⟨_, hg0, fun r e => by cases e⟩, (Below.refl _ _).grown hg0 hB (fun k e => by cases e), hg0.size⟩
    simpa [stk, Fo.top_len] using hown0
  clear hown0 hg0 h0 own0
  gi_wp2
  gi_loopw [3] (fun i wr => ∃ k, AllInv W B f J i wr k) (fun i wr => least (AllInv W B f J i wr))
  case atStart => exact ⟨_, hinv⟩
  case round =>
    obtain ⟨k, hk⟩ := hrel
    obtain ⟨⟨R, pre, hRk, hown, hL, hpre, hJs, hb, hsz⟩, _⟩ := least_of hk
    have HM := Lib.hid hRk
    clear hRk hk
    have HP := Lib.hid hpre
    clear hpre
    cases R with
    | nil =>
      obtain ⟨A1, c1, rfl, _, _⟩ := own_form hown
      dsimp only [Fo.len]
      gi_wp2
      go_end0
      exact ⟨⟨_, rfl⟩, .inl ⟨pre, by simpa [Fo.pre] using HP.out, hJs⟩⟩
    | cons k n u ps r =>
      have hpl : pre.length < f.size := by
        have h2 := congrArg List.length HP.out
        rw [List.length_append, Fo.pre_len, Fo.pre_len] at h2
        simp only [Fo.size] at h2
        omega
      have hrs : r.len ≤ 1000000 := by
        have h2 := congrArg List.length HP.out
        rw [List.length_append, Fo.pre_len, Fo.pre_len] at h2
        simp only [Fo.size] at h2
        have := r.len_le_size
        omega
      dsimp only [Fo.len] at hown
      obtain ⟨g, cp, rfl, hg1, hg2⟩ := own_shape hown (by omega)
      rw [stk_cons] at hown
      have hsl := stk_len r
      obtain ⟨hps, hLr⟩ := hL
      obtain ⟨q, hq⟩ : ∃ q, r.len = q := ⟨_, rfl⟩
      rw [hq] at hown hsl hrs ⊢
      have c0 : wr.cell? ⟨g, q * 3, none⟩ = some (.int .i64 k) := by rw [hown.cellAt _ (by omega), List.getElem?_append_right (by omega), hsl]; simp [trC]
      have c1 : wr.cell? ⟨g, q * 3 + 1, none⟩ = some (.int .i64 n) := by rw [hown.cellAt _ (by omega), List.getElem?_append_right (by omega), hsl]; simp [trC]
      have c2 : wr.cell? ⟨g, q * 3 + 2, none⟩ = some (slv u) := by rw [hown.cellAt _ (by omega), List.getElem?_append_right (by omega), hsl]; simp [trC]
      obtain ⟨u1, u2, u3⟩ := u
      dsimp only [slv] at c2
      have HQ := Lib.hid hq
      have HS := Lib.hid hsl
      have HO := Lib.hid hown
      clear hq hsl hown
      obtain ⟨W1, hW1⟩ : ∃ W1, W1 = wr.alloc (.cells #[.int .i64 k, .int .i64 n, .slice u1 u2 u3] 36) := ⟨_, rfl⟩
      have hJ1 : J pre W1 := by rw [hW1]; exact hJ _ _ _ hJs ⟨none, World.grownBy_alloc wr _ none, fun r e => by cases e⟩
      obtain ⟨fn, tmps, assign, body, hy, hR2⟩ := hY pre (k, n, (u1, u2, u3)) W1 hJ1 hpl
      dsimp only [trV, slv] at hy
      rw [hW1] at hy hR2
      have HW1 := Lib.hid hW1
      clear hW1
      gi_wp2
      refine hR2.mono ?_
      rintro e W3 (⟨rfl, hJ3, hk3⟩ | ⟨rfl, hJx3⟩)
      · have hbx : W3.heap[wr.heap.size]? = some (Obj.cells #[.int .i64 k, .int .i64 n, .slice u1 u2 u3] 36) := hk3.kept _ _ (World.alloc_heap_new wr _)
        have x2 : W3.cell? ⟨wr.heap.size, 2, none⟩ = some (.slice u1 u2 u3) := by
          have := cell_of_row W3 wr.heap.size 2 _ _ (0, 0) hbx
          rw [this]; rfl
        have hb3 : Below B W W3 := hb.trans (((Below.refl B wr).alloc (by omega) _).trans hk3.below)
        have hs3 : W.heap.size ≤ W3.heap.size := by have := hk3.below.size; simp at this; omega
        have own3 : W3.ownsRow W.heap.size 36 3 (.slice (some ⟨g, 0, none⟩) q cp) q (stk r) := own_cut (hk3.own (HO.out.alloc _)) q (by omega) HS.out
        have hps3 : TyV B W3 ps (slv (u1, u2, u3)) := hps.below (((Below.refl B wr).alloc (by omega) _).trans hk3.below)
        have hLr3 : TyL B W3 r := hLr.below (((Below.refl B wr).alloc (by omega) _).trans hk3.below)
        have hpn : ps.len ≤ 1000000 := by
          have h2 := congrArg List.length HP.out
          rw [List.length_append, Fo.pre_len, Fo.pre_len] at h2
          simp only [Fo.size] at h2
          have := ps.len_le_size
          omega
        have hcp : q + 1 ≤ cp := by
          obtain ⟨_, _, hv, h1, _⟩ := own_form HO.out
          injection hv with _ _ h3
          omega
        have FB := Lib.hid ((callsIn_wide (n := n_ - 1)).2 (backs_any W3.drew W.heap.size B (.slice (some ⟨g, 0, none⟩) q cp) (.slice u1 u2 u3) (stk r) q ps.top own3.drew hB hs3 (hps3.below (Below.refl B W3).drew).rd (by rw [Fo.top_len]; exact hpn) (by omega)))
        have hz : decide ((q : Int) ≤ (cp : Int)) = true := by simp; omega
        have hz0 : (0 : Int) ≤ (q : Int) := by omega
        have fin : ∀ (v' : Value) (w' : World), w'.ownsRow W.heap.size 36 3 v' (q + ps.top.length) (stk r ++ ps.top.reverse.flatMap trC) → W3.drew.grownBy w' (some g) → AllInv W B f J v' w' (ps.app r).size := by
          intro v' w' hown' hgd
          have hg' : W3.grownBy w' (some g) := ⟨hgd.os, hgd.tape, hgd.output, hgd.size, hgd.block⟩
          obtain ⟨_, cap, cur, hv, _, hgo, _⟩ := own3.2.resolve_left (by rintro ⟨h, _⟩; cases h)
          injection hv with hv _ _
          injection hv with hv
          injection hv with hv
          subst hv
          have hgB : Below B W3 w' := (Below.refl _ _).grown hg' (by omega) (fun k e => by cases e; omega)
          refine ⟨ps.app r, pre ++ [(k, n, (u1, u2, u3))], rfl, ?_, (hps3.list.below hgB).app (hLr3.below hgB), ?_, hJ _ _ _ hJ3 ⟨_, hg', fun r e => by cases e; exact ⟨hg1, _, hgo⟩⟩, hb3.trans hgB, Nat.le_trans hs3 hg'.size⟩
          · rw [stk_app, Fo.len_app, HQ.out, ← Fo.top_len ps, Nat.add_comm]
            exact hown'
          · rw [← HP.out, List.append_assoc, Fo.pre_next]; rfl
        have FN := Lib.hid fin
        have hmix : Try.prog.follows Departure.mixedOrders = true := by kernel_rfl
        clear hbx own3 hps3 hLr3 hb3 fin
        gi_wp2
        gi_region_with_o (refine ⟨trivial, ?_⟩; gi_at_call 99; refine FB.out.mono ?_; rintro e w4 ⟨v4, rfl, hown4, hg4, _⟩)
        all_goals
          have hfin := FN.out v4 w4 hown4 hg4
          clear hown4 hg4
          go_simp
          gi_wp2
          go_roundw
          case rel => exact ⟨_, hfin⟩
          case measure =>
            refine Nat.lt_of_le_of_lt (least_of hfin).2 (Nat.lt_of_lt_of_le ?_ (Nat.le_of_eq (HQ.out ▸ HM.out)))
            rw [Fo.size_app]
            simp only [Fo.size]
            omega
      · gi_wp2
        refine bodyPost_ret (results_none rfl _ _ _) rfl ?_
        exact ⟨⟨_, rfl⟩, .inr ⟨_, ⟨by simp, _, by rw [List.append_assoc, ← HP.out]; rfl⟩, hJx3⟩⟩
/-- types.all: the list is boxed, the function that comes has the box. -/
theorem all_make (A : Option Addr) (n c : Nat) (w : World) :
    Calls Try.prog 74 #[.slice A n c] w fun e w' => e = .returned (.func (.func 98) #[] #[.pointer (some ⟨w.heap.size, 0, none⟩)]) ∧ w' = w.alloc (.cells #[.slice A n c] 34) := by
  go_enter Try.func74, Try.ntmps74
  go_wp2
  go_ret
  exact ⟨rfl, rfl⟩
theorem RdX.mono {B C : Nat} {w : World} {v : Value} {L : List Tr} (h : RdX B w v L) (hC : B ≤ C) : RdX C w v L := by
  obtain ⟨A, c, hv, h⟩ := h
  refine ⟨A, c, hv, fun hn => ?_⟩
  obtain ⟨b, off, hA, hlt, hc⟩ := h hn
  exact ⟨b, off, hA, by omega, hc⟩
/-- Its contract, as an iterator's. -/
theorem all_seq (n : Nat) (hn : 1 ≤ n) (Bs B : Nat) (vl : Value) (f : Fo) (hf : f.size ≤ 1000000) (w : World) (hB : B ≤ w.heap.size) (hBs : Boxed w Bs 34 vl) (hR : RdX w.heap.size w vl f.top) (hL : TyL B w f) :
    SeqC n Try.prog 98 #[.pointer (some ⟨Bs, 0, none⟩)] 36 (fun x : Tr => #[trV x]) (KpC B) (fun ys => ys = f.pre) (fun pre => pre ≠ [] ∧ ∃ s, pre ++ s = f.pre) f.size w := by
  intro l J Jx W hW hJ _ hY h0
  exact all1 n hn l Bs B vl f hf J Jx W (Nat.le_trans hB hW.size) hJ hY ((hW.block Bs hBs.lt).trans hBs) ((hR.below hW).mono hW.size) (hL.below (hW.mono hB)) h0
end Go.Proofs.Ytcaclgaaaanfnaa
/- types.Size, types.Right, types.Has. -/
namespace Go.Proofs.Ytcaclgaaaanfnaa
open Go.RowKit Go.Shelf
attribute [local go_sem] Oper.semAt_some

theorem results_box {P : Program} {fn : Func} {p : Tmp} {ty : TypeId} (h : fn.results = #[.cell p ty]) (tmps : Array Value) (w : World) (g : Nat) (v : Value)
    (hp : tmps.getD p undef = .pointer (some ⟨g, 0, none⟩)) (hl : (loadVar ty ⟨g, 0, none⟩).run P w = .ok v w) : (results fn tmps).run P w = .ok v w := by
  have hp' : tmps[p]?.getD undef = .pointer (some ⟨g, 0, none⟩) := by simpa using hp
  simp [results, h, hp', asAddr, hl]
/-- A type, loaded. -/
theorem load_ty {w : World} {g : Nat} {k n : Int} {u : Sl} (h0 : w.cell? ⟨g, 0, none⟩ = some (.int .i64 k)) (h1 : w.cell? ⟨g, 1, none⟩ = some (.int .i64 n)) (h2 : w.cell? ⟨g, 2, none⟩ = some (slv u)) : (loadVar 36 ⟨g, 0, none⟩).run Try.prog w = .ok (tyVal k n (slv u)) w := by
  unfold slv at h2
  unfold tyVal slv
  go_simp
theorem below_own {β : Type} {B C : Nat} {w : World} (hC : C ≤ B) (hw : C ≤ w.heap.size) : OwnFrom B (fun (_ : β) W => Below C w W) := by
  intro s X Y row hs hg hr
  refine ⟨hg.os.trans hs.os, hg.tape.trans hs.tape, hg.output.trans hs.output, Nat.le_trans hs.size hg.size, fun k hk => ?_⟩
  exact (hg.block k (Nat.lt_of_lt_of_le hk (Nat.le_trans hw hs.size)) (fun e => by have := (hr k e.symm).1; omega)).trans (hs.block k hk)
theorem below_ab {β : Type} {B C : Nat} {t : TypeId} {w : World} (hC : C ≤ B) (hw : C ≤ w.heap.size) : AbC B t (fun (_ : β) W => Below C w W) := fun _ _ _ hs hc => hs.trans (hc.below hC (Nat.le_trans hw hs.size))
theorem box_ab {β : Type} {B b : Nat} {t u : TypeId} {f : β → Value} (hne : u ≠ t) : AbC B t (fun s W => Boxed W b u (f s)) := fun _ _ _ hs hc => hc.box hne hs
theorem KpC.box {B b : Nat} {W : World} {u : TypeId} {v : Value} (hb : Boxed W b u v) (hne : u ≠ 36) (hB : B ≤ b) (hw : B ≤ W.heap.size) (v' : Value) : KpC B W (W.setCell ⟨b, 0, none⟩ v') := by
  have hg := grownBy_setCell' W b v'
  refine ⟨(Below.refl B W).grown hg hw (fun k e => by cases e; exact hB), fun k cs hk => (hg.block k (Array.getElem?_eq_some_iff.1 hk).1 fun e => ?_).trans hk⟩
  cases e
  rw [show W.heap[b]? = _ from hb] at hk
  cases hk
  exact hne rfl
/-- One type, laid as a list, and boxed. -/
theorem one_laid {B : Nat} {w : World} (k n : Int) (u : Sl) (ps : Fo) (hB : B ≤ w.heap.size) (hps : TyV B w ps (slv u)) :
    ∃ W, (w.alloc (.cells #[.int .i64 k, .int .i64 n, slv u] 36)).alloc (.cells #[.slice (some ⟨w.heap.size, 0, none⟩) 1 1] 34) = W ∧ W.heap.size = w.heap.size + 1 + 1 ∧
      Boxed W (w.heap.size + 1) 34 (.slice (some ⟨w.heap.size, 0, none⟩) 1 1) ∧ RdX W.heap.size W (.slice (some ⟨w.heap.size, 0, none⟩) 1 1) (Fo.cons k n u ps .nil).top ∧ TyL B W (.cons k n u ps .nil) ∧ Below w.heap.size w W := by
  have hb : Below w.heap.size w ((w.alloc (.cells #[.int .i64 k, .int .i64 n, slv u] 36)).alloc (.cells #[.slice (some ⟨w.heap.size, 0, none⟩) 1 1] 34)) := ((Below.refl _ w).alloc (Nat.le_refl _) _).alloc (by simp) _
  refine ⟨_, rfl, by simp, ?_, ?_, ⟨hps.below (hb.mono hB), trivial⟩, hb⟩
  · have := Boxed.new (w.alloc (.cells #[.int .i64 k, .int .i64 n, slv u] 36)) 34 (.slice (some ⟨w.heap.size, 0, none⟩) 1 1)
    rwa [World.size_alloc] at this
  · refine ⟨_, 1, rfl, fun _ => ⟨w.heap.size, 0, rfl, by simp only [World.size_alloc]; omega, fun i hi => ?_⟩⟩
    obtain rfl : i = 0 := by simp [Fo.top] at hi; omega
    simp only [Fo.top, List.getElem_cons_zero, Nat.zero_mul, Nat.add_zero, Nat.zero_add]
    have hc : ∀ (j : Nat) (v : Value), [Value.int .i64 k, .int .i64 n, slv u][j]? = some v → ((w.alloc (.cells #[.int .i64 k, .int .i64 n, slv u] 36)).alloc (.cells #[.slice (some ⟨w.heap.size, 0, none⟩) 1 1] 34)).cell? ⟨w.heap.size, j, none⟩ = some v := by
      intro j v hv
      have h1 := cells_new w [.int .i64 k, .int .i64 n, slv u] 36 j v hv
      rw [add_lit0] at h1
      exact (((Below.refl (w.heap.size + 1) (w.alloc (.cells #[.int .i64 k, .int .i64 n, slv u] 36))).alloc (by simp) _).cell (p := ⟨w.heap.size, j, none⟩) (by simp)).trans h1
    exact ⟨hc 0 _ rfl, hc 1 _ rfl, hc 2 _ rfl⟩
end Go.Proofs.Ytcaclgaaaanfnaa
/- types.rightAlone. -/
namespace Go.Proofs.Ytcaclgaaaanfnaa
open Go.RowKit Go.Shelf

/-- Is one a type, its parts left aside? -/
def alone (k n : Int) (m : Nat) : Bool :=
  if k = 1 then decide (0 ≤ n) && decide (n < 1073741824) && ((m : Int) == 0)
  else if k = 2 ∨ k = 3 then (n == 0) && ((m : Int) == 0)
  else if k = 4 then (n == 0) && ((m : Int) == 2)
  else if k = 5 then (n == 0) && decide (2 ≤ (m : Int)) && decide ((m : Int) ≤ 8)
  else false
theorem number_any (n : Int) (w : World) : Calls Try.prog 100 #[.int .i64 n] w fun e w' => e = .returned (.bool (decide (0 ≤ n) && decide (n < 1073741824))) ∧ w' = w := by
  go_enter Try.func100, Try.ntmps100
  by_cases h : 0 ≤ n
  · have h2 : decide (0 ≤ n) = true := decide_eq_true h
    go_wp2
    go_ret
    exact ⟨by rw [h2]; rfl, rfl⟩
  · have h2 : decide (0 ≤ n) = false := decide_eq_false h
    go_wp2
    go_ret
    exact ⟨rfl, rfl⟩
set_option maxHeartbeats 1000000 in
theorem alone_any (k n : Int) (A : Option Addr) (m c : Nat) (w : World) : Calls Try.prog 75 #[tyVal k n (.slice A m c)] w fun e w' => e = .returned (.bool (alone k n m)) ∧ Below w.heap.size w w' := by
  dsimp only [tyVal]
  go_enter Try.func75, Try.ntmps75
  have HB := Lib.hid (show ∀ (cs : Array Value) (t : TypeId), Below w.heap.size w (w.alloc (Obj.cells cs t)) from fun cs t => (Below.refl _ w).alloc (Nat.le_refl _) _)
  by_cases h1 : k = 1
  · subst h1
    go_wp2_with fail
    refine (number_any n _).mono ?_
    rintro e w' ⟨rfl, rfl⟩
    obtain ⟨b, hb⟩ : ∃ b, (decide (0 ≤ n) && decide (n < 1073741824)) = b := ⟨_, rfl⟩
    rw [hb]
    have HN := Lib.hid hb
    clear hb
    cases b
    · go_wp2
      go_ret
      refine ⟨?_, HB.out _ _⟩
      simp [alone, HN.out]
    · go_wp2
      go_ret
      refine ⟨?_, HB.out _ _⟩
      simp [alone, HN.out]
  by_cases h2 : k = 2
  · subst h2
    obtain ⟨b, hb⟩ : ∃ b, (n == 0) = b := ⟨_, rfl⟩
    cases b
    · go_wp2
      go_ret
      refine ⟨?_, HB.out _ _⟩
      simp [alone, hb]
    · go_wp2
      go_ret
      refine ⟨?_, HB.out _ _⟩
      simp [alone, hb]
  by_cases h3 : k = 3
  · subst h3
    obtain ⟨b, hb⟩ : ∃ b, (n == 0) = b := ⟨_, rfl⟩
    cases b
    · go_wp2
      go_ret
      refine ⟨?_, HB.out _ _⟩
      simp [alone, hb]
    · go_wp2
      go_ret
      refine ⟨?_, HB.out _ _⟩
      simp [alone, hb]
  by_cases h4 : k = 4
  · subst h4
    obtain ⟨b, hb⟩ : ∃ b, (n == 0) = b := ⟨_, rfl⟩
    cases b
    · go_wp2
      go_ret
      refine ⟨?_, HB.out _ _⟩
      simp [alone, hb]
    · go_wp2
      go_ret
      refine ⟨?_, HB.out _ _⟩
      simp [alone, hb]
  by_cases h5 : k = 5
  · subst h5
    obtain ⟨b, hb⟩ : ∃ b, (n == 0) = b := ⟨_, rfl⟩
    obtain ⟨d, hd⟩ : ∃ d, decide (2 ≤ (m : Int)) = d := ⟨_, rfl⟩
    cases b
    · go_wp2
      go_ret
      refine ⟨?_, HB.out _ _⟩
      simp [alone, hb]
    cases d
    · go_wp2
      go_ret
      refine ⟨?_, HB.out _ _⟩
      simp [alone, hb, hd]
    · go_wp2
      go_ret
      refine ⟨?_, HB.out _ _⟩
      simp [alone, hb, hd]
  have f1 : (k == 1) = false := beq_eq_false_iff_ne.2 h1
  have f2 : (k == 2) = false := beq_eq_false_iff_ne.2 h2
  have f3 : (k == 3) = false := beq_eq_false_iff_ne.2 h3
  have f4 : (k == 4) = false := beq_eq_false_iff_ne.2 h4
  have f5 : (k == 5) = false := beq_eq_false_iff_ne.2 h5
  go_wp2
  go_ret
  refine ⟨?_, HB.out _ _⟩
  simp [alone, h1, h2, h3, h4, h5]
end Go.Proofs.Ytcaclgaaaanfnaa
/- types.Right, types.Has. -/
namespace Go.Proofs.Ytcaclgaaaanfnaa
open Go.RowKit Go.Shelf
attribute [local go_sem] Oper.semAt_some

/-- Is every one of them a type, its parts left aside? -/
def allAlone (l : List Tr) : Bool := l.all fun x => alone x.1 x.2.1 x.2.2.2.1
theorem load_bool {w : World} {g : Nat} {b : Bool} (h : w.cell? ⟨g, 0, none⟩ = some (.bool b)) : (loadVar 4 ⟨g, 0, none⟩).run Try.prog w = .ok (.bool b) w := by
  go_simp
set_option maxRecDepth 100000 in
set_option maxHeartbeats 2000000 in
theorem right_any (w : World) (B : Nat) (k n : Int) (u : Sl) (ps : Fo) (hB : B ≤ w.heap.size) (hps : TyV B w ps (slv u)) (hs : ps.size < 1000000) :
    Calls Try.prog 47 #[tyVal k n (slv u)] w fun e w' => e = .returned (.bool (allAlone (Fo.cons k n u ps .nil).pre)) ∧ Below w.heap.size w w' := by
  obtain ⟨u1, u2, u3⟩ := u
  dsimp only [tyVal, slv] at hps ⊢
  refine (callsIn_wide (n := 4)).1 ?_
  refine callsIn_of_wp_marks Try.func47 rfl trivial ?_ rfl
  simp only [Try.ntmps47, List.size_toArray, List.length_cons, List.length_nil, Nat.reduceAdd, Nat.reduceSub, Array.replicate_succ, Array.replicate_zero, List.push_toArray, List.append_toArray, List.nil_append, List.cons_append]
  gi_wp2_with (refine ⟨trivial, ?_⟩; gi_at_call 74; refine (callsIn_wide.2 (all_make _ 1 1 _)).mono ?_; rintro e w' ⟨rfl, rfl⟩)
  obtain ⟨wa, hwa⟩ : ∃ wa, (w.alloc (Obj.cells #[.int .i64 k, .int .i64 n, .slice u1 u2 u3] 36)).alloc (Obj.cells #[.bool false] 4) = wa := ⟨_, rfl⟩
  have hsa : wa.heap.size = w.heap.size + 1 + 1 := by rw [← hwa]; simp
  have hba : Below w.heap.size w wa := by rw [← hwa]; exact ((Below.refl _ w).alloc (Nat.le_refl _) _).alloc (by simp) _
  have bz : Boxed wa (w.heap.size + 1) 4 (.bool false) := by
    rw [← hwa]
    have := Boxed.new (w.alloc (Obj.cells #[.int .i64 k, .int .i64 n, .slice u1 u2 u3] 36)) 4 (.bool false)
    rwa [World.size_alloc] at this
  obtain ⟨w4, hw4, hs4, hbx, hrd, hTL, hb4⟩ := one_laid (w := wa) (B := B) k n (u1, u2, u3) ps (by omega) (hps.below (hba.mono hB))
  dsimp only [slv] at hw4
  rw [hwa, ← hsa, hw4]
  have bz4 : Boxed w4 (w.heap.size + 1) 4 (.bool false) := (hb4.block _ (by omega)).trans bz
  have hb04 : Below w.heap.size w w4 := hba.trans (hb4.mono (by omega))
  have hf : (Fo.cons k n (u1, u2, u3) ps .nil).size = 1 + ps.size := by simp [Fo.size]
  refine wpIn_rangeC (by omega) (gf := 98) (lb := #[.pointer (some ⟨wa.heap.size + 1, 0, none⟩)]) rfl (enters_of Try.func98 (by kernel_rfl) rfl)
    (all_seq 3 (by omega) (wa.heap.size + 1) B _ (.cons k n (u1, u2, u3) ps .nil) (by omega) w4 (by omega) hbx hrd hTL) (Below.refl _ _) KpC.t (KpC.b (by omega)) (fun _ => rfl)
    (fun pre W => allAlone pre = true ∧ Boxed W (w.heap.size + 1) 4 (.bool false) ∧ Below w.heap.size w W) (fun c pre W => (c = .ret ∧ allAlone pre = false) ∧ Boxed W (w.heap.size + 1) 4 (.bool false) ∧ Below w.heap.size w W)
    (OwnFrom.and (ownFrom_pure _ _) (OwnFrom.and (Own.from (boxed_own _ _ (fun _ => .bool false)) _) (below_own (by omega) (Nat.le_refl _)))) (fun _ => OwnFrom.and (ownFrom_pure _ _) (OwnFrom.and (Own.from (boxed_own _ _ (fun _ => .bool false)) _) (below_own (by omega) (Nat.le_refl _))))
    (AbC.and AbC.pure (AbC.and (box_ab (by decide)) (below_ab (by omega) (Nat.le_refl _)))) (fun _ => AbC.and AbC.pure (AbC.and (box_ab (by decide)) (below_ab (by omega) (Nat.le_refl _))))
    ⟨rfl, bz4, hb04⟩
    (fun x a' W => ∃ Bx, (W.cell? ⟨Bx, 0, none⟩ = some (.int .i64 x.1) ∧ W.cell? ⟨Bx, 1, none⟩ = some (.int .i64 x.2.1) ∧ W.cell? ⟨Bx, 2, none⟩ = some (slv x.2.2)) ∧ a' = { tmps := #[tyVal k n (.slice u1 u2 u3), .pointer (some ⟨w.heap.size, 0, none⟩), .pointer (some ⟨w.heap.size + 1, 0, none⟩), .pointer (some ⟨Bx, 0, none⟩), tyVal k n (.slice u1 u2 u3), .slice (some ⟨wa.heap.size, 0, none⟩) 1 1, .func (.func 98) #[] #[.pointer (some ⟨wa.heap.size + 1, 0, none⟩)], trV x, undef, undef, undef], defers := [] })
    (fun x a' s W W' row hs hg hr => by
      obtain ⟨Bx, ⟨c0, c1, c2⟩, ha⟩ := hs
      exact ⟨Bx, ⟨cell_kept c0 hg (fun r e => (hr r e).2), cell_kept c1 hg (fun r e => (hr r e).2), cell_kept c2 hg (fun r e => (hr r e).2)⟩, ha⟩) ?assign ?body ?done ?stop
  case assign =>
    rintro l pre x W K ⟨hi1, hi2, hi3⟩ hK
    obtain ⟨x0, x1, A3, n3, c3⟩ := x
    dsimp only [trV, slv] at hK ⊢
    have hsz := hi3.size
    gi_wp2
    exact hK _ _ ((KeepsOthers.alloc _ _).from _) (KpC.of_below ((Below.refl _ _).alloc (Nat.le_refl _) _) (by omega)) ⟨hi1, hi2.alloc _, hi3.alloc hsz _⟩ ⟨W.heap.size, ⟨by go_simp, by go_simp, by go_simp⟩, by simp [tyVal]⟩
  case body =>
    rintro l pre x a' W hl ⟨hi1, hi2, hi3⟩ ⟨Bx, ⟨c0, c1, c2⟩, rfl⟩ hlt
    obtain ⟨x0, x1, A3, n3, c3⟩ := x
    dsimp only [trV, slv, tyVal] at c0 c1 c2 ⊢
    obtain ⟨b, hb⟩ : ∃ b, alone x0 x1 n3 = b := ⟨_, rfl⟩
    have FA := Lib.hid (alone_any x0 x1 A3 n3 c3 W)
    rw [hb] at FA
    have hap : allAlone (pre ++ [(x0, x1, A3, n3, c3)]) = b := by
      have : allAlone (pre ++ [(x0, x1, A3, n3, c3)]) = (allAlone pre && alone x0 x1 n3) := by simp [allAlone]
      rw [this, hi1, hb]; rfl
    have HAP := Lib.hid hap
    have HSZ := Lib.hid hi3.size
    have HS4 := Lib.hid hs4
    have HSA := Lib.hid hsa
    clear hap hb hf hs4 hsa hs
    cases b
    · gi_wp2_with (refine ⟨trivial, ?_⟩; gi_at_call 75; refine (CallsIn.inRound l (callsIn_wide.2 FA.out)).mono ?_; rintro e w' ⟨rfl, hbw⟩; have hi2' : Boxed w' (w.heap.size + 1) 4 (.bool false) := (hbw.block _ hi2.lt).trans hi2; have bc := hi2'.cell; have bf := hi2'.frozen; have HB2 := Lib.hid hi2'; clear hi2')
      refine ⟨⟨Nat.le_trans hbw.size (KeepsOthers.setCell w' _ _).size, fun j o _ hj ho => (KeepsOthers.setCell w' _ _).same j o ((hbw.block j (Array.getElem?_eq_some_iff.1 hj).1).trans hj) ho⟩, ⟨rfl, HAP.out⟩, HB2.out.set _, ?_⟩
      have hb1 : Below w.heap.size w w' := hi3.trans (hbw.mono HSZ.out)
      exact hb1.trans ((Below.refl _ _).grown (grownBy_setCell' w' (w.heap.size + 1) _) hb1.size (fun k e => by cases e; omega))
    · gi_wp2_with (refine ⟨trivial, ?_⟩; gi_at_call 75; refine (CallsIn.inRound l (callsIn_wide.2 FA.out)).mono ?_; rintro e w' ⟨rfl, hbw⟩)
      refine ⟨⟨hbw.size, fun j o _ hj _ => (hbw.block j (Array.getElem?_eq_some_iff.1 hj).1).trans hj⟩, KpC.of_below hbw (Nat.le_trans hB HSZ.out), HAP.out, (hbw.block _ hi2.lt).trans hi2, hi3.trans (hbw.mono HSZ.out)⟩
  case done =>
    rintro D ys W hD rfl ⟨hi1, hi2, hi3⟩ hK
    have bc := hi2.cell
    have bf := hi2.frozen
    have HB2 := Lib.hid hi2
    have HA := Lib.hid hi1
    clear hi2 hi1 hf
    gi_wp2
    have bx : Boxed ((W.setCell ⟨w.heap.size + 1, 0, none⟩ (.bool true)).putObj D (.deferred none)) (w.heap.size + 1) 4 (.bool true) := (HB2.out.set _).kept (grownBy_putObj' _ D (.deferred none)) (fun e => by cases e; omega)
    have hK' : (W.setCell ⟨w.heap.size + 1, 0, none⟩ (.bool true)).heap[D]? = some (.deferred (some [])) := ((grownBy_setCell' W (w.heap.size + 1) (.bool true)).block D (Array.getElem?_eq_some_iff.1 hK).1 (fun e => by cases e; omega)).trans hK
    refine ⟨by simp, .inl ⟨_, _, rfl, run_takeDeferred hK', ?_⟩⟩
    refine ⟨_, results_box rfl _ _ _ _ rfl (load_bool bx.cell), ?_, ?_⟩
    · rw [HA.out]
    · have h1 := hi3.trans ((Below.refl _ _).grown (grownBy_setCell' W (w.heap.size + 1) (.bool true)) hi3.size (fun k e => by cases e; omega))
      exact h1.trans ((Below.refl _ _).grown (grownBy_putObj' _ D (.deferred none)) h1.size (fun k e => by cases e; omega))
  case stop =>
    rintro D c pre W hD ⟨hne, s, hsp⟩ ⟨⟨rfl, hi1⟩, hi2, hi3⟩ hK
    gi_wp2
    have bx : Boxed (W.putObj D (.deferred none)) (w.heap.size + 1) 4 (.bool false) := hi2.kept (grownBy_putObj' _ D (.deferred none)) (fun e => by cases e; omega)
    refine ⟨by simp, .inl ⟨_, _, rfl, run_takeDeferred hK, ?_⟩⟩
    refine ⟨_, results_box rfl _ _ _ _ rfl (load_bool bx.cell), ?_, hi3.trans ((Below.refl _ _).grown (grownBy_putObj' _ D (.deferred none)) hi3.size (fun k e => by cases e; omega))⟩
    have : allAlone (pre ++ s) = false := by
      have h2 : allAlone (pre ++ s) = (allAlone pre && allAlone s) := by simp [allAlone]
      rw [h2, hi1]; rfl
    rw [← hsp, this]
/-- Is it that variable? -/
def isVar (v : Int) (x : Tr) : Bool := x.1 == 1 && x.2.1 == v
end Go.Proofs.Ytcaclgaaaanfnaa
/- The answer's Right. -/
namespace Go.Proofs.Ytcaclgaaaanfnaa
open Go.RowKit

theorem Fo.pre_split (f : Fo) (j : Nat) (hj : j < f.len) : f.pre = (f.take j).pre ++ (((f.at_ j).1, (f.at_ j).2.1, (f.at_ j).2.2.1) :: (f.at_ j).2.2.2.pre) ++ (f.drop (j + 1)).pre := by
  induction f generalizing j with
  | nil => simp [Fo.len] at hj
  | cons k n v ps r _ ih =>
    cases j with
    | zero => simp [Fo.at_, Fo.pre, Fo.take, Fo.drop]
    | succ j =>
      have := ih j (by simp [Fo.len] at hj; omega)
      simp only [Fo.pre, Fo.take, Fo.at_, Fo.drop]
      rw [this]
      simp
theorem Fo.pre_take (f : Fo) (j : Nat) (hj : j < f.len) : (f.take (j + 1)).pre = (f.take j).pre ++ (((f.at_ j).1, (f.at_ j).2.1, (f.at_ j).2.2.1) :: (f.at_ j).2.2.2.pre) := by
  rw [Fo.take_step f j hj, Fo.pre_app]
  simp [Fo.pre]
theorem allAlone_appJ (a b : List Tr) : allAlone (a ++ b) = (allAlone a && allAlone b) := by simp [allAlone]
theorem allAlone_cons (x : Tr) (b : List Tr) : allAlone (x :: b) = (alone x.1 x.2.1 x.2.2.2.1 && allAlone b) := by simp [allAlone]
theorem TyV.len {B : Nat} {w : World} {f : Fo} {u : Sl} (h : TyV B w f (slv u)) : u.2.1 = f.len := by
  obtain ⟨A, c, hv⟩ := h.slice
  unfold slv at hv
  injection hv
set_option maxHeartbeats 2000000 in
set_option maxRecDepth 100000 in
theorem rright_any (m : Nat) : ∀ (f : Fo) (k n : Int) (v : Value) (w : World), f.size < m → f.size ≤ 1000000 → TyV w.heap.size w f v →
    Calls Try.prog 45 #[tyVal k n v] w fun e w' => e = .returned (.bool (alone k n f.len && allAlone f.pre)) ∧ Below w.heap.size w w' := by
  induction m with
  | zero => intro f k n v w h; omega
  | succ m ih =>
    intro f k n v w hm hs h
    obtain ⟨A, c, rfl⟩ := h.slice
    have H := Lib.hid h
    have IH := Lib.hid ih
    have hll := f.len_le_size
    clear h ih
    unfold tyVal
    go_enter Try.func45, Try.ntmps45
    obtain ⟨q, hq⟩ : ∃ q, f.len = q := ⟨_, rfl⟩
    rw [hq] at hll ⊢
    have HB0 := Lib.hid (show ∀ (cs : Array Value) (t : TypeId), Below w.heap.size w (w.alloc (Obj.cells cs t)) from fun cs t => (Below.refl _ w).alloc (Nat.le_refl _) _)
    have HQ := Lib.hid hq
    clear hq
    have done : alone k n q = false → ∀ (cs : Array Value) (t : TypeId), (Ending.returned (.bool false) = .returned (.bool (alone k n q && allAlone f.pre)) ∧ Below w.heap.size w (w.alloc (Obj.cells cs t))) := by
      intro h1 cs t
      rw [h1]
      exact ⟨rfl, HB0.out _ _⟩
    have DONE := Lib.hid done
    clear done
    by_cases h1 : k = 1
    case' pos =>
      subst h1
      by_cases h2 : n < 0
      · have f2 : decide (n < 0) = true := decide_eq_true h2
        go_wp2_with fail
        go_ret
        exact DONE.out (by unfold alone; rw [if_pos rfl, decide_eq_false (by omega : ¬ 0 ≤ n)]; rfl) _ _
      have f2 : decide (n < 0) = false := decide_eq_false h2
      by_cases h3 : 1073741824 ≤ n
      · have f3 : decide (1073741824 ≤ n) = true := decide_eq_true h3
        go_wp2_with fail
        go_ret
        exact DONE.out (by unfold alone; rw [if_pos rfl, decide_eq_false (by omega : ¬ n < 1073741824)]; simp) _ _
      have f3 : decide (1073741824 ≤ n) = false := decide_eq_false h3
      by_cases h4 : 0 < q
      · have f5 : decide (0 < q) = true := decide_eq_true h4
        go_wp2_with fail
        go_ret
        exact DONE.out (by unfold alone; rw [if_pos rfl, beq_eq_false_iff_ne.2 (by omega : (q : Int) ≠ 0)]; simp) _ _
      have hal : alone 1 n q = true := by
        obtain rfl : q = 0 := by omega
        unfold alone
        rw [if_pos rfl, decide_eq_true (by omega : 0 ≤ n), decide_eq_true (by omega : n < 1073741824)]
        rfl
      have HA := Lib.hid hal
      have f5 : decide (0 < q) = false := decide_eq_false h4
      clear hal h2 h3 h4
      go_wp2_with fail
    case' neg =>
      by_cases h2 : n = 0
      case neg =>
        have f1 : (k == 1) = false := beq_eq_false_iff_ne.2 h1
        have f2 : (n != 0) = true := bne_iff_ne.2 h2
        go_wp2_with fail
        go_ret
        refine DONE.out ?_ _ _
        unfold alone
        simp [h1, h2]
      subst h2
      by_cases h2 : k = 2
      case' pos =>
        subst h2
        by_cases h4 : 0 < q
        · have f5 : decide (0 < q) = true := decide_eq_true h4
          go_wp2_with fail
          go_ret
          exact DONE.out (by unfold alone; simp; omega) _ _
        have hal : alone 2 0 q = true := by obtain rfl : q = 0 := by omega
                                            rfl
        have HA := Lib.hid hal
        have f5 : decide (0 < q) = false := decide_eq_false h4
        clear hal h4 h1
        go_wp2_with fail
      case' neg =>
        by_cases h3 : k = 3
        case' pos =>
          subst h3
          by_cases h4 : 0 < q
          · have f5 : decide (0 < q) = true := decide_eq_true h4
            go_wp2_with fail
            go_ret
            exact DONE.out (by unfold alone; simp; omega) _ _
          have hal : alone 3 0 q = true := by obtain rfl : q = 0 := by omega
                                              rfl
          have HA := Lib.hid hal
          have f5 : decide (0 < q) = false := decide_eq_false h4
          clear hal h4 h1 h2
          go_wp2_with fail
        case' neg =>
          by_cases h4 : k = 4
          case' pos =>
            subst h4
            by_cases h5 : q = 2
            case neg =>
              have f5 : ((q : Int) != 2) = true := bne_iff_ne.2 (by omega)
              go_wp2_with fail
              go_ret
              exact DONE.out (by unfold alone; simp; omega) _ _
            have f5 : ((q : Int) != 2) = false := by rw [h5]; rfl
            have hal : alone 4 0 q = true := by rw [h5]; rfl
            have HA := Lib.hid hal
            clear hal h5 h1 h2 h3
            go_wp2_with fail
          case' neg =>
            by_cases h5 : k = 5
            case' pos =>
              subst h5
              by_cases h6 : q < 2
              · have f5 : decide (q < 2) = true := decide_eq_true h6
                go_wp2_with fail
                go_ret
                exact DONE.out (by unfold alone; simp; omega) _ _
              have f5 : decide (q < 2) = false := decide_eq_false h6
              by_cases h7 : 8 < q
              · have f6 : decide (8 < q) = true := decide_eq_true h7
                go_wp2_with fail
                go_ret
                exact DONE.out (by unfold alone; simp; omega) _ _
              have f6 : decide (8 < q) = false := decide_eq_false h7
              have hal : alone 5 0 q = true := by unfold alone; simp; omega
              have HA := Lib.hid hal
              clear hal h1 h2 h3 h4
              go_wp2_with fail
              all_goals try (exfalso; omega)
            case' neg =>
              have f1 : (k == 1) = false := beq_eq_false_iff_ne.2 h1
              have f2 : (k == 2) = false := beq_eq_false_iff_ne.2 h2
              have f3 : (k == 3) = false := beq_eq_false_iff_ne.2 h3
              have f4 : (k == 4) = false := beq_eq_false_iff_ne.2 h4
              have f5 : (k == 5) = false := beq_eq_false_iff_ne.2 h5
              by_cases h6 : k < 1
              · have f6 : decide (k < 1) = true := decide_eq_true h6
                go_wp2_with fail
                go_ret
                exact DONE.out (by unfold alone; simp [h1, h2, h3, h4, h5]) _ _
              · have f6 : decide (k < 1) = false := decide_eq_false h6
                have f7 : decide (5 < k) = true := decide_eq_true (by omega)
                go_wp2_with fail
                go_ret
                exact DONE.out (by unfold alone; simp [h1, h2, h3, h4, h5]) _ _
    all_goals
      go_loopw [4] (fun t4 wr => ∃ j : Nat, j ≤ q ∧ t4 = .int .i64 j ∧ allAlone (f.take j).pre = true ∧ wr.cell? ⟨w.heap.size, 2, none⟩ = some (.slice A q c) ∧ Below w.heap.size w wr ∧ w.heap.size + 1 ≤ wr.heap.size) (fun t _ => q - (intOf t).toNat)
      case atStart => exact ⟨0, Nat.zero_le _, rfl, by simp [Fo.take_zero, Fo.pre, allAlone], by go_simp, HB0.out _ _, by simp⟩
      case round =>
        obtain ⟨j, hj, rfl, hja, e2, hb, hz⟩ := hrel
        have HB := Lib.hid hb
        have HJA := Lib.hid hja
        clear hja hb
        by_cases hjl : j < q
        · have hjf : j < f.len := by rw [HQ.out]; exact hjl
          obtain ⟨b, off, cap, hv, _, _, hlt, hC⟩ := H.out.form (by omega)
          injection hv with hA _ hcc
          subst hA; subst hcc
          obtain ⟨d0, d1, d2, hch⟩ := tyC_at hC j hjf
          have c0 := (HB.out.cell (p := ⟨b, off + j * 3, none⟩) hlt).trans d0
          have c1 := (HB.out.cell (p := ⟨b, off + j * 3 + 1, none⟩) hlt).trans d1
          have c2 := (HB.out.cell (p := ⟨b, off + j * 3 + 2, none⟩) hlt).trans d2
          have hch' : TyV wr.heap.size wr (f.at_ j).2.2.2 (slv (f.at_ j).2.2.1) := (hch.keep HB.out.size fun b off hb' => HB.out.cell (p := ⟨b, off, none⟩) hb')
          have hsz := f.at_size j hjf
          have hsp := f.pre_split j hjf
          have htk := f.pre_take j hjf
          have hpl := hch.len
          have hrec := IH.out (f.at_ j).2.2.2 (f.at_ j).1 (f.at_ j).2.1 (slv (f.at_ j).2.2.1) wr (by omega) (by omega) hch'
          clear d0 d1 d2 hC hch hch' hsz
          unfold tyVal at hrec
          generalize f.at_ j = p at *
          obtain ⟨pk, pn, pv, pf⟩ := p
          dsimp only at hsp htk hpl hrec c0 c1 c2
          obtain ⟨x, hx⟩ : ∃ x, (alone pk pn pf.len && allAlone pf.pre) = x := ⟨_, rfl⟩
          rw [hx] at hrec
          have hxa : allAlone ((pk, pn, pv) :: pf.pre) = x := by rw [allAlone_cons, ← hx, hpl]
          have HREC := Lib.hid hrec
          have HSP := Lib.hid (show allAlone f.pre = (x && allAlone (f.drop (j + 1)).pre) by rw [hsp, allAlone_appJ, allAlone_appJ, HJA.out, hxa]; rfl)
          have HTK := Lib.hid (show allAlone (f.take (j + 1)).pre = x by rw [htk, allAlone_appJ, HJA.out, hxa]; rfl)
          clear hrec hsp htk hpl hx hxa hjf
          go_wp2_with fail
          refine HREC.out.mono ?_
          rintro e w2 ⟨rfl, hb3⟩
          have e2' := (hb3.cell (p := ⟨w.heap.size, 2, none⟩) (by simp only; omega)).trans e2
          have HB3 := Lib.hid hb3
          clear hb3
          cases x
          · go_wp2_with fail
            go_ret
            exact ⟨ret_bool (by rw [HA.out, HSP.out]; rfl), HB.out.trans (HB3.out.mono (by omega))⟩
          · go_wp2_with fail
            go_roundw
            case rel => exact ⟨j + 1, by omega, by go_num, HTK.out, e2', HB.out.trans (HB3.out.mono (by omega)), Nat.le_trans hz HB3.out.size⟩
            case measure => simp [intOf]; omega
        · obtain rfl : j = q := by omega
          have HT : Hid (f.take j = f) := Lib.hid (by rw [← HQ.out]; exact f.take_len)
          go_wp2_with fail
          go_ret
          exact ⟨ret_bool (by rw [HA.out, ← HT.out, HJA.out]; rfl), HB.out⟩
end Go.Proofs.Ytcaclgaaaanfnaa
