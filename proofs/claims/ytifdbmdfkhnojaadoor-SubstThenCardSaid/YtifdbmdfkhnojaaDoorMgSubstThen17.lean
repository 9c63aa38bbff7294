/- Texts of one proof, one behind the other. -/
import Derived.Test.YtifdbmdfkhnojaaDoorMgSubstThen4
import Derived.Test.YtifdbmdfkhnojaaDoorMgSubstThen7
import Derived.Test.YtifdbmdfkhnojaaDoorMgSubstThen14
import Derived.Test.YtifdbmdfkhnojaaDoorMgSubstThen8
import Derived.Test.YtifdbmdfkhnojaaDoorMgSubstThen12
import Derived.Maps.Own
import Derived.Maps.Views
import Derived.Maps.OwnSet
/- types.all's function, where it is known what may come next. -/
namespace Go.Proofs.YtifdbmdfkhnojaaDoor
open Go.RowKit Go.Shelf
attribute [local go_sem] Oper.semAt_some
set_option maxRecDepth 100000 in
set_option maxHeartbeats 2000000 in
theorem all1G (n_ : Nat) (hn : 1 ≤ n_) (l Bs B : Nat) (vl : Value) (f : Fo) (hf : f.size ≤ 1000000) (J Jx : List Tr → World → Prop) (W : World) (hB : B ≤ W.heap.size) 
    (hJ : AbC W.heap.size 25 J)
    (hY : ∀ pre x W, J pre W → (∃ s, pre ++ x :: s = f.pre) → YieldAt Fence.wide (n_ - 1) Tryd.prog l #[trV x] W fun e W' =>
      (e = .returned (.bool true) ∧ J (pre ++ [x]) W' ∧ KpC B W W') ∨ (e = .returned (.bool false) ∧ Jx (pre ++ [x]) W'))
    (hBs : Boxed W Bs 23 vl) (hR : RdX W.heap.size W vl f.top) (hL0 : TyL B W f) (h0 : J [] W) :
    CallsIn Fence.wide n_ Tryd.prog 73 #[.func (.yield l) #[] #[], .pointer (some ⟨Bs, 0, none⟩)] W fun e W' => (∃ v, e = .returned v) ∧
      ((∃ ys : List Tr, ys = f.pre ∧ J ys W') ∨ (∃ pre, (pre ≠ [] ∧ ∃ s, pre ++ s = f.pre) ∧ Jx pre W')) := by
  refine callsIn_of_wp Tryd.func73 rfl trivial ?_ rfl
  simp only [Tryd.ntmps73, List.size_toArray, List.length_cons, List.length_nil, Nat.reduceAdd, Nat.reduceSub, Array.replicate_succ, Array.replicate_zero, List.push_toArray, List.append_toArray, List.nil_append, List.cons_append]
  have e00 : W.cell? ⟨Bs, 0, none⟩ = some vl := hBs.cell
  obtain ⟨A, c, hv, _⟩ := id hR
  have HBS := Lib.hid hBs
  have HV := Lib.hid hv
  clear hBs hv
  have own0 : W.ownsRow W.heap.size 25 3 (.slice none 0 0) 0 [] := ⟨rfl, .inl ⟨rfl, rfl⟩⟩
  gi_wp2_with (refine ⟨trivial, ?_⟩; gi_at_call 74)
  refine (callsIn_wide.2 (backs_any W W.heap.size W.heap.size (.slice none 0 0) vl [] 0 f.top own0 (Nat.le_refl _) (Nat.le_refl _) hR (by rw [Fo.top_len]; exact Nat.le_trans f.len_le_size hf) (by omega))).mono ?_
  rintro e w0 ⟨v0, rfl, hown0, hg0, _⟩
  have hinv : AllInv W B f J v0 w0 f.size := by
    refine ⟨f, [], rfl, ?_, hL0.below ((Below.refl _ _).grown hg0 hB (fun k e => by cases e)), rfl, hJ _ _ _ h0 ⟨_, hg0, fun r e => by cases e⟩, (Below.refl _ _).grown hg0 hB (fun k e => by cases e), hg0.size⟩
    simpa [stk, Fo.top_len] using hown0
  clear hown0 hg0 h0 own0
  gi_wp2
  gi_loopw [3] (fun i wr => ∃ k, AllInv W B f J i wr k) (fun i wr => least (AllInv W B f J i wr))
  case atStart => exact ⟨_, hinv⟩
  case round =>
    obtain ⟨k, hk⟩ := hrel
    obtain ⟨⟨R, pre, hRk, hown, hL, hpre, hJs, hb, hsz⟩, _⟩ := least_of hk
    have HM := Lib.hid hRk
    clear hRk hk
    have HP := Lib.hid hpre
    clear hpre
    cases R with
    | nil =>
      obtain ⟨A1, c1, rfl, _, _⟩ := own_form hown
      dsimp only [Fo.len]
      gi_wp2
      go_end0
      exact ⟨⟨_, rfl⟩, .inl ⟨pre, by simpa [Fo.pre] using HP.out, hJs⟩⟩
    | cons k n u ps r =>
      have hpl : ∃ s, pre ++ (k, n, u) :: s = f.pre := ⟨ps.pre ++ r.pre, HP.out⟩
      have hrs : r.len ≤ 1000000 := by
        have h2 := congrArg List.length HP.out
        rw [List.length_append, Fo.pre_len, Fo.pre_len] at h2
        simp only [Fo.size] at h2
        have := r.len_le_size
        omega
      dsimp only [Fo.len] at hown
      obtain ⟨g, cp, rfl, hg1, hg2⟩ := own_shape hown (by omega)
      rw [stk_cons] at hown
      have hsl := stk_len r
      obtain ⟨hps, hLr⟩ := hL
      obtain ⟨q, hq⟩ : ∃ q, r.len = q := ⟨_, rfl⟩
      rw [hq] at hown hsl hrs ⊢
      have c0 : wr.cell? ⟨g, q * 3, none⟩ = some (.int .i64 k) := by rw [hown.cellAt _ (by omega), List.getElem?_append_right (by omega), hsl]; simp [trC]
      have c1 : wr.cell? ⟨g, q * 3 + 1, none⟩ = some (.int .i64 n) := by rw [hown.cellAt _ (by omega), List.getElem?_append_right (by omega), hsl]; simp [trC]
      have c2 : wr.cell? ⟨g, q * 3 + 2, none⟩ = some (slv u) := by rw [hown.cellAt _ (by omega), List.getElem?_append_right (by omega), hsl]; simp [trC]
      obtain ⟨u1, u2, u3⟩ := u
      dsimp only [slv] at c2
      have HQ := Lib.hid hq
      have HS := Lib.hid hsl
      have HO := Lib.hid hown
      clear hq hsl hown
      obtain ⟨W1, hW1⟩ : ∃ W1, W1 = wr.alloc (.cells #[.int .i64 k, .int .i64 n, .slice u1 u2 u3] 25) := ⟨_, rfl⟩
      have hJ1 : J pre W1 := by rw [hW1]; exact hJ _ _ _ hJs ⟨none, World.grownBy_alloc wr _ none, fun r e => by cases e⟩
      obtain ⟨fn, tmps, assign, body, hy, hR2⟩ := hY pre (k, n, (u1, u2, u3)) W1 hJ1 hpl
      dsimp only [trV, slv] at hy
      rw [hW1] at hy hR2
      have HW1 := Lib.hid hW1
      clear hW1
      gi_wp2
      refine hR2.mono ?_
      rintro e W3 (⟨rfl, hJ3, hk3⟩ | ⟨rfl, hJx3⟩)
      · have hbx : W3.heap[wr.heap.size]? = some (Obj.cells #[.int .i64 k, .int .i64 n, .slice u1 u2 u3] 25) := hk3.kept _ _ (World.alloc_heap_new wr _)
        have x2 : W3.cell? ⟨wr.heap.size, 2, none⟩ = some (.slice u1 u2 u3) := by
          have := cell_of_row W3 wr.heap.size 2 _ _ (0, 0) hbx
          rw [this]; rfl
        have hb3 : Below B W W3 := hb.trans (((Below.refl B wr).alloc (by omega) _).trans hk3.below)
        have hs3 : W.heap.size ≤ W3.heap.size := by have := hk3.below.size; simp at this; omega
        have own3 : W3.ownsRow W.heap.size 25 3 (.slice (some ⟨g, 0, none⟩) q cp) q (stk r) := own_cut (hk3.own (HO.out.alloc _)) q (by omega) HS.out
        have hps3 : TyV B W3 ps (slv (u1, u2, u3)) := hps.below (((Below.refl B wr).alloc (by omega) _).trans hk3.below)
        have hLr3 : TyL B W3 r := hLr.below (((Below.refl B wr).alloc (by omega) _).trans hk3.below)
        have hpn : ps.len ≤ 1000000 := by
          have h2 := congrArg List.length HP.out
          rw [List.length_append, Fo.pre_len, Fo.pre_len] at h2
          simp only [Fo.size] at h2
          have := ps.len_le_size
          omega
        have hcp : q + 1 ≤ cp := by
          obtain ⟨_, _, hv, h1, _⟩ := own_form HO.out
          injection hv with _ _ h3
          omega
        have FB := Lib.hid ((callsIn_wide (n := n_ - 1)).2 (backs_any W3.drew W.heap.size B (.slice (some ⟨g, 0, none⟩) q cp) (.slice u1 u2 u3) (stk r) q ps.top own3.drew hB hs3 (hps3.below (Below.refl B W3).drew).rd (by rw [Fo.top_len]; exact hpn) (by omega)))
        have hz : decide ((q : Int) ≤ (cp : Int)) = true := by simp; omega
        have hz0 : (0 : Int) ≤ (q : Int) := by omega
        have fin : ∀ (v' : Value) (w' : World), w'.ownsRow W.heap.size 25 3 v' (q + ps.top.length) (stk r ++ ps.top.reverse.flatMap trC) → W3.drew.grownBy w' (some g) → AllInv W B f J v' w' (ps.app r).size := by
          intro v' w' hown' hgd
          have hg' : W3.grownBy w' (some g) := ⟨hgd.os, hgd.tape, hgd.output, hgd.size, hgd.block⟩
          obtain ⟨_, cap, cur, hv, _, hgo, _⟩ := own3.2.resolve_left (by rintro ⟨h, _⟩; cases h)
          injection hv with hv _ _
          injection hv with hv
          injection hv with hv
          subst hv
          have hgB : Below B W3 w' := (Below.refl _ _).grown hg' (by omega) (fun k e => by cases e; omega)
          refine ⟨ps.app r, pre ++ [(k, n, (u1, u2, u3))], rfl, ?_, (hps3.list.below hgB).app (hLr3.below hgB), ?_, hJ _ _ _ hJ3 ⟨_, hg', fun r e => by cases e; exact ⟨hg1, _, hgo⟩⟩, hb3.trans hgB, Nat.le_trans hs3 hg'.size⟩
          · rw [stk_app, Fo.len_app, HQ.out, ← Fo.top_len ps, Nat.add_comm]
            exact hown'
          · rw [← HP.out, List.append_assoc, Fo.pre_next]; rfl
        have FN := Lib.hid fin
        have hmix : Tryd.prog.follows Departure.mixedOrders = true := by kernel_rfl
        clear hbx own3 hps3 hLr3 hb3 fin
        gi_wp2
        gi_region_with_o (refine ⟨trivial, ?_⟩; gi_at_call 74; refine FB.out.mono ?_; rintro e w4 ⟨v4, rfl, hown4, hg4, _⟩)
        all_goals
          have hfin := FN.out v4 w4 hown4 hg4
          clear hown4 hg4
          go_simp
          gi_wp2
          go_roundw
          case rel => exact ⟨_, hfin⟩
          case measure =>
            refine Nat.lt_of_le_of_lt (least_of hfin).2 (Nat.lt_of_lt_of_le ?_ (Nat.le_of_eq (HQ.out ▸ HM.out)))
            rw [Fo.size_app]
            simp only [Fo.size]
            omega
      · gi_wp2
        refine bodyPost_ret (results_none rfl _ _ _) rfl ?_
        exact ⟨⟨_, rfl⟩, .inr ⟨_, ⟨by simp, _, by rw [List.append_assoc, ← HP.out]; rfl⟩, hJx3⟩⟩
/-- types.all: the list is boxed, the function that comes has the box. -/
theorem all_seqG (n : Nat) (hn : 1 ≤ n) (Bs B : Nat) (vl : Value) (f : Fo) (hf : f.size ≤ 1000000) (w : World) (hB : B ≤ w.heap.size) (hBs : Boxed w Bs 23 vl) (hR : RdX w.heap.size w vl f.top) (hL : TyL B w f) :
    SeqG n Tryd.prog 73 #[.pointer (some ⟨Bs, 0, none⟩)] 25 (fun x : Tr => #[trV x]) (KpC B) (fun ys => ys = f.pre) (fun pre => pre ≠ [] ∧ ∃ s, pre ++ s = f.pre) (fun pre x => ∃ s, pre ++ x :: s = f.pre) w := by
  intro l J Jx W hW hJ _ hY h0
  exact all1G n hn l Bs B vl f hf J Jx W (Nat.le_trans hB hW.size) hJ hY ((hW.block Bs hBs.lt).trans hBs) ((hR.below hW).mono hW.size) (hL.below (hW.mono hB)) h0
end Go.Proofs.YtifdbmdfkhnojaaDoor
/- types.Vars. -/
namespace Go.Proofs.YtifdbmdfkhnojaaDoor
open Go.RowKit Go.Shelf Go.Maps Go.WideShapes
attribute [local go_sem] Oper.semAt_some
attribute [local go_sem ↓] builtin_app

theorem plain_bool_inv {H : Type} {P : Program} {e : TypeId} (he : P.underlying e = some .bool) {v : Value} {z : DataW H × List MemPlace} (h : plainElem P e v = some z) : ∃ a, v = .bool a ∧ z = (.lit (.bool a), []) := by
  unfold plainElem at h
  rw [he] at h
  cases v <;> simp at h
  exact ⟨_, rfl, h.symm⟩
theorem lawI : Keyed Tryd.prog 3 := int_keyed Tryd.underlying3
theorem zeroB (w : World) : (zeroValue 4).run Tryd.prog w = .ok (.bool false) w := by kernel_rfl
/-- A map that has numbers, each true. -/
def MapI (L : List Int) (b : Nat) (W : World) : Prop :=
  ∃ (k : Nat) (D : DataW Unit), W.ownsMap Tryd.prog 3 (plainElem Tryd.prog 4) b k D ∧ k ≤ L.length ∧ IsMap D ∧ ∀ n : Int, (Lit.int .i64 n).wf = true → D.atKey (.int .i64 n) (.lit (.bool false)) = .lit (.bool (decide (n ∈ L)))
theorem MapI.made (w : World) : MapI [] w.heap.size (w.alloc (.map #[] 0)) := ⟨0, .map [], World.ownsMap_made _ _ _ _, Nat.le_refl _, isMap_empty, fun n _ => rfl⟩
theorem MapI.kept {L : List Int} {b : Nat} {W W' : World} {row : Option Nat} (h : MapI L b W) (hg : W.grownBy W' row) (hne : some b ≠ row) : MapI L b W' := by
  obtain ⟨k, D, h1, h2⟩ := h
  exact ⟨k, D, h1.kept hg hne, h2⟩
theorem MapI.lt {L : List Int} {b : Nat} {W : World} (h : MapI L b W) : b < W.heap.size := by obtain ⟨_, _, h1, _⟩ := h; exact h1.lt
theorem MapI.look {L : List Int} {b : Nat} {W : World} (h : MapI L b W) (n : Int) (hn : (Lit.int .i64 n).wf = true) : (Instr.lookup 67 (.map (some b)) (.int .i64 n) false).run Tryd.prog W = .ok (.bool (decide (n ∈ L))) W := by
  obtain ⟨k, D, h1, _, _, h3⟩ := h
  obtain ⟨v, ps, hrun, hv⟩ := h1.lookup lawI Tryd.underlying67 (zeroB W) (plainElem_bool Tryd.underlying4 false) (keyOf_int_mk Tryd.underlying3 hn)
  rw [h3 n hn] at hv
  obtain ⟨x, rfl, hx⟩ := plain_bool_inv Tryd.underlying4 hv
  simp only [Prod.mk.injEq, DataW.lit.injEq, Lit.bool.injEq] at hx
  rw [hrun, ← hx.1]
theorem MapI.put {L : List Int} {b : Nat} {W : World} (h : MapI L b W) (hl : L.length ≤ 1000000) (n : Int) (hn : (Lit.int .i64 n).wf = true) : ∃ W', (Instr.mapUpdate 67 (.map (some b)) (.int .i64 n) (.bool true)).run Tryd.prog W = .ok () W' ∧ MapI (L ++ [n]) b W' ∧ W.grownBy W' (some b) := by
  obtain ⟨k, D, h1, h2, hm, h3⟩ := h
  obtain ⟨w', hrun, ho, hg⟩ := h1.update lawI Tryd.underlying67 (by unfold maxLen; omega) (keyOf_int_mk Tryd.underlying3 hn) (plainElem_bool Tryd.underlying4 true)
  refine ⟨w', hrun, ⟨k + 1, _, ho, by simp; omega, hm.put _ _, fun m hm2 => ?_⟩, hg⟩
  by_cases e : m = n
  · subst e
    rw [atKey_put_same hm (by trivial)]
    simp
  · rw [atKey_put_other (by simpa using e), h3 m hm2]
    simp [e]
/-- Between two rounds: the variables so far, and the map that has them. -/
def VaInv (w : World) (b3 b4 bm : Nat) (pre : List Tr) (W : World) : Prop :=
  ∃ v, Boxed W b3 34 v ∧ W.ownsRow w.heap.size 3 1 v (varsL [] pre).length (ints (varsL [] pre)) ∧ Boxed W b4 67 (.map (some bm)) ∧ MapI (varsL [] pre) bm W ∧ Below w.heap.size w W
theorem VaInv.own {w : World} {b3 b4 bm B : Nat} (hB : w.heap.size ≤ B) (hbm : bm < B) : OwnFrom B (VaInv w b3 b4 bm) := by
  rintro pre W W' row ⟨v, h1, h2, h3, h4, h5⟩ hg hr
  have nb : ∀ {b : Nat} {t : TypeId} {u : Value}, Boxed W b t u → some b ≠ row := fun hb e => by
    obtain ⟨_, o, ho, hc⟩ := hr _ e.symm
    rw [show W.heap[_]? = _ from hb] at ho; cases ho; cases hc
  refine ⟨v, h1.kept hg (nb h1), h2.kept hg ?_, h3.kept hg (nb h3), h4.kept hg (fun e => by have := (hr _ e.symm).1; omega), h5.trans ((Below.refl _ _).grown hg h5.size (fun k e => by have := (hr k e).1; omega))⟩
  rcases h2.2 with ⟨rfl, _⟩ | ⟨g, cap, cur, rfl, _, hgb, _⟩
  · exact .inl rfl
  · refine .inr fun e => ?_
    obtain ⟨_, o, ho, hc⟩ := hr g e.symm
    rw [hgb] at ho; cases ho; cases hc
theorem VaInv.ab {w : World} {b3 b4 bm B : Nat} (hB : w.heap.size ≤ B) : AbC B 25 (VaInv w b3 b4 bm) := by
  rintro pre W W' ⟨v, h1, h2, h3, h4, h5⟩ hc
  have hb := hc.below hB h5.size
  refine ⟨v, hc.box (by decide) h1, ?_, hc.box (by decide) h3, ?_, h5.trans hb⟩
  · obtain ⟨row, hg, hr⟩ := hc
    refine h2.kept hg ?_
    rcases h2.2 with ⟨rfl, _⟩ | ⟨g, cap, cur, rfl, _, hgb, _⟩
    · exact .inl rfl
    · refine .inr fun e => ?_
      obtain ⟨_, cs, hcs⟩ := hr g e.symm
      rw [hgb] at hcs; injection hcs with hcs; injection hcs with _ h; exact absurd h (by decide)
  · obtain ⟨row, hg, hr⟩ := hc
    refine h4.kept hg fun e => ?_
    obtain ⟨_, cs, hcs⟩ := hr bm e.symm
    obtain ⟨_, _, ⟨es, ck, hm, _⟩, _⟩ := h4
    rw [hm] at hcs; injection hcs with hcs; cases hcs
theorem Fo.wf_pre {F : Fo} (h : F.wf) : ∀ x ∈ F.pre, (Lit.int .i64 x.2.1).wf = true := by
  induction F with
  | nil => intro x hx; cases hx
  | cons k n u ps r ih1 ih2 =>
    intro x hx
    simp only [Fo.pre, List.mem_cons, List.mem_append] at hx
    rcases hx with rfl | hx | hx
    · exact h.1
    · exact ih1 h.2.1 x hx
    · exact ih2 h.2.2 x hx
theorem own_ne_def {W : World} {base D size n : Nat} {e : TypeId} {v : Value} {xs : List Value} {ds : Option (List Deferred)} (h : W.ownsRow base e size v n xs) (hD : W.heap[D]? = some (.deferred ds)) : v.ownBlock = none ∨ v.ownBlock ≠ some D := by
  rcases h.2 with ⟨rfl, _⟩ | ⟨a, cap, cur, rfl, _, hgb, _⟩
  · exact .inl rfl
  · refine .inr fun e2 => ?_
    obtain rfl : a = D := by simpa [Value.ownBlock] using e2
    rw [hgb] at hD; cases hD
/-- A round that keeps a variable. -/
theorem va_fin (w W W1 W2 : World) (B B0 b3 b4 bm q g : Nat) (v v' : Value) (L : List Int) (n : Int) (hB : B ≤ w.heap.size) (hb : w.heap.size ≤ b3 ∧ w.heap.size ≤ bm ∧ w.heap.size ≤ b4 ∧ b3 ≠ bm ∧ b3 ≠ b4 ∧ bm ≠ b4 ∧ b3 < B0 ∧ bm < B0 ∧ b4 < B0)
    (h1 : Boxed W b3 34 v) (h2 : W.ownsRow w.heap.size 3 1 v q (ints L)) (h3 : Boxed W b4 67 (.map (some bm))) (h4 : MapI L bm W) (h5 : Below w.heap.size w W)
    (m1 : MapI (L ++ [n]) bm W1) (g1 : W.grownBy W1 (some bm))
    (o2 : W2.ownsRow w.heap.size 3 1 v' (L ++ [n]).length (ints (L ++ [n]))) (g2 : (W1.alloc (.cells #[.int .i64 n] 3)).grownBy W2 v.ownBlock) :
    KeepsFrom B0 W (W2.setCell ⟨b3, 0, none⟩ v') ∧ KpC B W (W2.setCell ⟨b3, 0, none⟩ v') ∧ Boxed W2 b3 34 v ∧
      (Boxed (W2.setCell ⟨b3, 0, none⟩ v') b3 34 v' ∧ (W2.setCell ⟨b3, 0, none⟩ v').ownsRow w.heap.size 3 1 v' (L ++ [n]).length (ints (L ++ [n])) ∧ Boxed (W2.setCell ⟨b3, 0, none⟩ v') b4 67 (.map (some bm)) ∧ MapI (L ++ [n]) bm (W2.setCell ⟨b3, 0, none⟩ v') ∧ Below w.heap.size w (W2.setCell ⟨b3, 0, none⟩ v')) := by
  have hmp : ∃ es ck, W.heap[bm]? = some (Obj.map es ck) := by obtain ⟨_, _, ⟨es, ck, hm, _⟩, _⟩ := h4; exact ⟨es, ck, hm⟩
  obtain ⟨es, ck, hm⟩ := hmp
  have hrow : ∀ r, v.ownBlock = some r → w.heap.size ≤ r ∧ ∃ cs, W.heap[r]? = some (Obj.cells cs 3) := by
    intro r hr
    rcases h2.2 with ⟨rfl, _⟩ | ⟨a, cap, cur, rfl, ha, hgb, _⟩
    · simp [Value.ownBlock] at hr
    · obtain rfl : a = r := by simpa [Value.ownBlock] using hr
      exact ⟨ha, _, hgb⟩
  have hn3 : some b3 ≠ v.ownBlock := h1.not_row (by decide) h2
  have hn4 : some b4 ≠ v.ownBlock := h3.not_row (by decide) h2
  have hnm : some bm ≠ v.ownBlock := fun e => by
    obtain ⟨_, cs, hc⟩ := hrow bm e.symm
    rw [hm] at hc; cases hc
  have ga := World.grownBy_alloc W1 (.cells #[.int .i64 n] 3) none
  have q3 : Boxed W2 b3 34 v := ((h1.kept g1 (by simp; omega)).kept ga (by simp)).kept g2 hn3
  have q4 : Boxed W2 b4 67 (.map (some bm)) := ((h3.kept g1 (by simp; omega)).kept ga (by simp)).kept g2 hn4
  have qm : MapI (L ++ [n]) bm W2 := (m1.kept ga (by simp)).kept g2 hnm
  have gs := grownBy_setCell' W2 b3 v'
  have hs1 := g1.size
  have hs2 := g2.size
  simp only [World.size_alloc] at hs2
  have hs3 := gs.size
  have hW : ∀ j, j < W.heap.size → j ≠ bm → some j ≠ v.ownBlock → j ≠ b3 → (W2.setCell ⟨b3, 0, none⟩ v').heap[j]? = W.heap[j]? := fun j hj e1 e2 e3 =>
    (gs.block j (by omega) (by simp; omega)).trans ((g2.block j (by simp; omega) e2).trans ((ga.block j (by omega) (by simp)).trans (g1.block j hj (by simp; omega))))
  have hBel : Below w.heap.size w (W2.setCell ⟨b3, 0, none⟩ v') := by
    refine ⟨gs.os.trans (g2.os.trans (ga.os.trans (g1.os.trans h5.os))), gs.tape.trans (g2.tape.trans (ga.tape.trans (g1.tape.trans h5.tape))), gs.output.trans (g2.output.trans (ga.output.trans (g1.output.trans h5.output))), by have := h5.size; omega, fun j hj => ?_⟩
    exact (hW j (by have := h5.size; omega) (by omega) (fun e => by have := (hrow j e.symm).1; omega) (by omega)).trans (h5.block j hj)
  refine ⟨⟨by omega, fun j o hj ho hc => ?_⟩, ⟨⟨gs.os.trans (g2.os.trans (ga.os.trans g1.os)), gs.tape.trans (g2.tape.trans (ga.tape.trans g1.tape)), gs.output.trans (g2.output.trans (ga.output.trans g1.output)), by omega, fun j hj => ?_⟩, fun j cs hj => ?_⟩, q3, q3.set _, o2.kept gs (.inr (fun e => ?_)), q4.kept gs (by simp; omega), qm.kept gs (by simp; omega), hBel⟩
  · refine (hW j (Array.getElem?_eq_some_iff.1 ho).1 (by omega) (fun e => ?_) (by omega)).trans ho
    obtain ⟨_, cs, hcs⟩ := hrow j e.symm
    rw [ho] at hcs; injection hcs with hcs; subst hcs; cases hc
  · exact hW j (by have := h5.size; omega) (by omega) (fun e => by have := (hrow j e.symm).1; omega) (by omega)
  · refine (hW j (Array.getElem?_eq_some_iff.1 hj).1 (fun e => ?_) (fun e => ?_) (fun e => ?_)).trans hj
    · subst e; rw [hm] at hj; cases hj
    · obtain ⟨_, cs', hcs⟩ := hrow j e.symm
      rw [hj] at hcs; injection hcs with hcs; injection hcs with _ h; exact absurd h (by decide)
    · subst e
      rw [show W.heap[_]? = _ from h1] at hj; injection hj with hj; injection hj with _ h; exact absurd h (by decide)
  · exact q3.not_row (by decide) o2 e.symm
set_option maxRecDepth 100000 in
set_option maxHeartbeats 2000000 in
theorem vars_any (w : World) (B : Nat) (F : Fo) (vl : Value) (hB : B ≤ w.heap.size) (hF : TyV B w F vl) (hs : F.size < 100000) (hwf : F.wf) :
    Calls Tryd.prog 41 #[vl] w (IsInts (varsL [] F.pre) w) := by
  obtain ⟨A, c, rfl⟩ := hF.slice
  refine (callsIn_wide (n := 4)).1 ?_
  refine callsIn_of_wp_marks Tryd.func41 rfl trivial ?_ rfl
  simp only [Tryd.ntmps41, List.size_toArray, List.length_cons, List.length_nil, Nat.reduceAdd, Nat.reduceSub, Array.replicate_succ, Array.replicate_zero, List.push_toArray, List.append_toArray, List.nil_append, List.cons_append]
  have hmm := @run_makeMap Tryd.prog
  gi_wp2_with (refine ⟨trivial, ?_⟩; gi_at_call 59; refine (callsIn_wide.2 (all_make _ _ _ _)).mono ?_; rintro e w' ⟨rfl, rfl⟩)
  obtain ⟨w4, hw4⟩ : ∃ w4, (((w.alloc (Obj.cells #[.slice none 0 0] 34)).alloc (Obj.map #[] 0)).alloc (Obj.cells #[.map (some (w.heap.size + 1))] 67)).alloc (Obj.cells #[.slice A F.len c] 23) = w4 := ⟨_, rfl⟩
  have hs4 : w4.heap.size = w.heap.size + 4 := by rw [← hw4]; simp
  have hb4 : Below w.heap.size w w4 := by rw [← hw4]; exact ((((Below.refl _ w).alloc (Nat.le_refl _) _).alloc (by simp) _).alloc (by simp only [World.size_alloc]; omega) _).alloc (by simp only [World.size_alloc]; omega) _
  have k0 : w4.heap[w.heap.size]? = some (.cells #[.slice none 0 0] 34) := by
    rw [← hw4]
    exact (Below.heap_alloc _ _ _ (by simp only [World.size_alloc]; omega)).trans ((Below.heap_alloc _ _ _ (by simp only [World.size_alloc]; omega)).trans ((Below.heap_alloc _ _ _ (by simp only [World.size_alloc]; omega)).trans (heap_alloc_new w _)))
  have k1 : MapI [] (w.heap.size + 1) w4 := by
    have h := MapI.made (w.alloc (Obj.cells #[.slice none 0 0] 34))
    rw [World.size_alloc] at h
    rw [← hw4]
    exact (h.kept (World.grownBy_alloc _ _ none) (by simp)).kept (World.grownBy_alloc _ _ none) (by simp)
  have k2 : w4.heap[w.heap.size + 1 + 1]? = some (.cells #[.map (some (w.heap.size + 1))] 67) := by
    rw [← hw4]
    refine (Below.heap_alloc _ _ _ (by simp only [World.size_alloc]; omega)).trans ?_
    have := heap_alloc_new ((w.alloc (Obj.cells #[.slice none 0 0] 34)).alloc (Obj.map #[] 0)) (Obj.cells #[.map (some (w.heap.size + 1))] 67)
    simp only [World.size_alloc] at this
    exact this
  have k3 : Boxed w4 (w.heap.size + 1 + 1 + 1) 23 (.slice A F.len c) := by
    rw [← hw4]
    have := heap_alloc_new (((w.alloc (Obj.cells #[.slice none 0 0] 34)).alloc (Obj.map #[] 0)).alloc (Obj.cells #[.map (some (w.heap.size + 1))] 67)) (Obj.cells #[.slice A F.len c] 23)
    simp only [World.size_alloc] at this
    exact this
  have hTL : TyL B w4 F := (hF.below (hb4.mono hB)).list
  have hR4 : RdX w4.heap.size w4 (.slice A F.len c) F.top := (hF.below (hb4.mono hB)).rd.mono (by omega)
  have hlL : ∀ pre : List Tr, (∃ s, pre ++ s = F.pre) → (varsL [] pre).length ≤ 1000000 := fun pre ⟨s, h⟩ => by
    have h1 := varsL_len pre []
    have h2 := congrArg List.length h
    rw [List.length_append, Fo.pre_len] at h2
    simp at h1
    omega
  have hinv : VaInv w w.heap.size (w.heap.size + 1 + 1) (w.heap.size + 1) [] w4 := ⟨.slice none 0 0, k0, ⟨rfl, .inl ⟨rfl, rfl⟩⟩, k2, k1, hb4⟩
  rw [hw4]
  clear hw4 hmm k0 k1 k2
  refine wpIn_rangeG (by omega) (gf := 73) (lb := #[.pointer (some ⟨w.heap.size + 1 + 1 + 1, 0, none⟩)]) rfl (enters_of Tryd.func73 (by kernel_rfl) rfl)
    (all_seqG 3 (by omega) (w.heap.size + 1 + 1 + 1) B _ F (by omega) w4 (by omega) k3 hR4 hTL) (Below.refl _ _) KpC.t (KpC.b (by omega)) (fun _ => rfl)
    (VaInv w w.heap.size (w.heap.size + 1 + 1) (w.heap.size + 1)) (fun _ _ _ => False)
    (VaInv.own (by omega) (by omega)) (fun _ _ _ _ _ hs _ _ => hs)
    (VaInv.ab (by omega)) (fun _ _ _ _ hs _ => hs)
    hinv
    (fun x a' W => ∃ Bx, (W.cell? ⟨Bx, 0, none⟩ = some (.int .i64 x.1) ∧ W.cell? ⟨Bx, 1, none⟩ = some (.int .i64 x.2.1) ∧ W.cell? ⟨Bx, 2, none⟩ = some (slv x.2.2)) ∧ a' = { tmps := #[.slice A F.len c, undef, .slice none 0 0, .pointer (some ⟨w.heap.size, 0, none⟩), .pointer (some ⟨w.heap.size + 1 + 1, 0, none⟩), .pointer (some ⟨Bx, 0, none⟩), .map (some (w.heap.size + 1)), .slice A F.len c, .func (.func 73) #[] #[.pointer (some ⟨w.heap.size + 1 + 1 + 1, 0, none⟩)], trV x, undef, undef, undef, undef, undef, undef, undef, undef, undef, undef, undef, undef, undef, undef, undef, undef, undef, undef, undef], defers := [] })
    (fun x a' s W W' row hs hg hr => by
      obtain ⟨Bx, ⟨c0, c1, c2⟩, ha⟩ := hs
      exact ⟨Bx, ⟨cell_kept c0 hg (fun r e => (hr r e).2), cell_kept c1 hg (fun r e => (hr r e).2), cell_kept c2 hg (fun r e => (hr r e).2)⟩, ha⟩) ?assign ?body ?done ?stop
  case assign =>
    rintro l pre x W K hi hK
    obtain ⟨x0, x1, A3, n3, c3⟩ := x
    dsimp only [trV, slv] at hK ⊢
    obtain ⟨_, _, _, _, _, hb5⟩ := id hi
    have HI := Lib.hid hi
    have hsz := hb5.size
    clear hi
    gi_wp2
    exact hK _ _ ((KeepsOthers.alloc _ _).from _) (KpC.of_below ((Below.refl _ _).alloc (Nat.le_refl _) _) (by omega)) ((VaInv.own (B := w4.heap.size) (by omega) (by omega)).alloc _ HI.out) ⟨W.heap.size, ⟨by go_simp, by go_simp, by go_simp⟩, by simp⟩
  case body =>
    rintro l pre x a' W hl hi ⟨Bx, ⟨c0, c1, c2⟩, rfl⟩ ⟨srest, hsr⟩
    obtain ⟨x0, x1, A3, n3, c3⟩ := x
    dsimp only [trV, slv, tyVal] at c0 c1 c2 ⊢
    obtain ⟨v, h1, h2, h3, h4, h5⟩ := hi
    have hlx := hlL pre ⟨_, hsr⟩
    have hw1 : (Lit.int .i64 x1).wf = true := Fo.wf_pre hwf (x0, x1, A3, n3, c3) (by rw [← hsr]; simp)
    have hlk := h4.look x1 hw1
    have hva : varsL [] (pre ++ [(x0, x1, A3, n3, c3)]) = addV (varsL [] pre) (x0, x1, A3, n3, c3) := by rw [varsL_app]; rfl
    obtain ⟨L, hL⟩ : ∃ L, varsL [] pre = L := ⟨_, rfl⟩
    rw [hL] at h2 h4 hlx hlk hva
    obtain ⟨q, hq⟩ : ∃ q, L.length = q := ⟨_, rfl⟩
    rw [hq] at hlx
    obtain ⟨Av, cv, rfl, _, _⟩ := own_form h2
    rw [hq] at h1 h2
    have b4c := h3.cell
    have b3c := h1.cell
    have hbl := h5.size
    have same : addV L (x0, x1, A3, n3, c3) = L → VaInv w w.heap.size (w.heap.size + 1 + 1) (w.heap.size + 1) (pre ++ [(x0, x1, A3, n3, c3)]) W := fun e => by
      refine ⟨.slice Av q cv, h1, ?_, h3, ?_, h5⟩
      · rw [hva, e, hq]; exact h2
      · rw [hva, e]; exact h4
    have SAME := Lib.hid same
    have H1 := Lib.hid h1
    have H2 := Lib.hid h2
    have H3 := Lib.hid h3
    have H4 := Lib.hid h4
    have H5 := Lib.hid h5
    have HVA := Lib.hid hva
    have HQ := Lib.hid hq
    have HW1 := Lib.hid hw1
    clear same h1 h2 h3 h4 h5 hva hq hL hsr hw1 hR4 hTL k3 hinv hwf hlL hF
    by_cases e1 : x0 = 1
    · subst e1
      by_cases hmem : x1 ∈ L
      · rw [decide_eq_true hmem] at hlk
        have S := Lib.hid (SAME.out (by unfold addV; rw [if_neg (by simp [hmem])]))
        clear hmem
        gi_wp2
        exact ⟨KeepsFrom.refl _ _, ⟨Below.refl _ _, fun _ _ h => h⟩, S.out⟩
      · have hadd : addV L (1, x1, A3, n3, c3) = L ++ [x1] := by unfold addV; rw [if_pos ⟨rfl, hmem⟩]
        rw [decide_eq_false hmem] at hlk
        obtain ⟨W1, run1, m1, g1⟩ := H4.out.put (by rw [HQ.out]; exact hlx) x1 HW1.out
        have hmp : ∀ r, some (w.heap.size + 1) = some r → ∃ o : Obj, W.heap[r]? = some o ∧ o.isCells = false := by
          obtain ⟨_, _, ⟨es, ck, hm, _⟩, _⟩ := H4.out
          intro r e; cases e; exact ⟨_, hm, rfl⟩
        have d1 : W1.cell? ⟨Bx, 1, none⟩ = some (.int .i64 x1) := cell_kept c1 g1 hmp
        have d3 : W1.cell? ⟨w.heap.size, 0, none⟩ = some (.slice Av q cv) := cell_kept b3c g1 hmp
        have o1 : W1.ownsRow w.heap.size 3 1 (.slice Av q cv) L.length (ints L) := by
          rw [HQ.out]
          refine H2.out.kept g1 ?_
          rcases H2.out.2 with ⟨e, _⟩ | ⟨a, cap, cur, e, _, hgb, _⟩
          · rw [e]; exact .inl rfl
          · rw [e]
            refine .inr fun e2 => ?_
            obtain ⟨o, ho, hc⟩ := hmp a e2.symm
            rw [hgb] at ho; cases ho; cases hc
        have hs1 := g1.size
        obtain ⟨v2, W2, run2, o2, _, _, g2, _⟩ := app_int (W1.alloc (.cells #[.int .i64 x1] 3)) w.heap.size (.slice Av q cv) L (o1.alloc _) (.slice (some ⟨W1.heap.size, 0, none⟩) 1 1) [x1] (rd_new W1 [.int .i64 x1] _ 1 1 rfl (by unfold maxLen; omega)) (by simp [HQ.out]; omega) (by simp; omega)
        obtain ⟨gg, cg, rfl, _, _⟩ := own_shape o2 (by simp)
        obtain ⟨f1, f2, f3, f4⟩ := va_fin w W W1 W2 B w4.heap.size w.heap.size (w.heap.size + 1 + 1) (w.heap.size + 1) q 0 (.slice Av q cv) _ L x1 hB (by omega) H1.out H2.out H3.out H4.out H5.out m1 g1 o2 g2
        have z3 := f3.cell
        have z4 := f3.frozen
        have FIN := Lib.hid (And.intro f1 (And.intro f2 (show VaInv w w.heap.size (w.heap.size + 1 + 1) (w.heap.size + 1) (pre ++ [(1, x1, A3, n3, c3)]) _ from ⟨_, by rw [HVA.out, hadd]; exact f4⟩)))
        clear f1 f2 f3 f4 o1 o2 g1 g2 m1 hmem hadd hmp
        obtain ⟨q2, hq2⟩ : ∃ q2, (L ++ [x1]).length = q2 := ⟨_, rfl⟩
        rw [hq2] at run2 FIN
        clear hq2
        gi_wp2
        exact FIN.out
    · have f1 : (x0 == 1) = false := beq_eq_false_iff_ne.2 e1
      have S := Lib.hid (SAME.out (by unfold addV; rw [if_neg (by simp [e1])]))
      gi_wp2
      exact ⟨KeepsFrom.refl _ _, ⟨Below.refl _ _, fun _ _ h => h⟩, S.out⟩
  case done =>
    rintro D ys W hD rfl hi hK
    obtain ⟨v, h1, h2, h3, h4, h5⟩ := hi
    have bc := h1.cell
    have H1 := Lib.hid h1
    have H2 := Lib.hid h2
    have H5 := Lib.hid h5
    clear h1 h2 h3 h4 h5 hinv hwf hlL
    gi_wp2
    refine ⟨by simp, .inl ⟨_, _, rfl, run_takeDeferred hK, ?_⟩⟩
    have hgp := grownBy_putObj' W D (.deferred none)
    exact ⟨_, results_tmp rfl _ _ _, v, rfl, Rd.of_own (H2.out.kept hgp (own_ne_def H2.out hK)), H5.out.trans ((Below.refl _ _).grown hgp H5.out.size (fun k e => by cases e; omega))⟩
  case stop =>
    rintro D c pre W _ _ h _
    exact h.elim
end Go.Proofs.YtifdbmdfkhnojaaDoor
