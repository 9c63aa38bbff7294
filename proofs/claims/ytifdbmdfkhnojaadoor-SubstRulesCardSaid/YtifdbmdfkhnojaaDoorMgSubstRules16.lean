/- Texts of one proof, one behind the other. -/
import Derived.Test.YtifdbmdfkhnojaaDoorMgSubstRules5
import Derived.Test.YtifdbmdfkhnojaaDoorMgSubstRules8
import Derived.Test.YtifdbmdfkhnojaaDoorMgSubstRules10
import Derived.Test.YtifdbmdfkhnojaaDoorMgSubstRules2
import Derived.Test.YtifdbmdfkhnojaaDoorMgSubstRules1
/- types.all's function, where it is known what may come next. -/
namespace Go.Proofs.YtifdbmdfkhnojaaDoor
open Go.RowKit Go.Shelf
attribute [local go_sem] Oper.semAt_some
set_option maxRecDepth 100000 in
set_option maxHeartbeats 2000000 in
theorem all1G (n_ : Nat) (hn : 1 ≤ n_) (l Bs B : Nat) (vl : Value) (f : Fo) (hf : f.size ≤ 1000000) (J Jx : List Tr → World → Prop) (W : World) (hB : B ≤ W.heap.size) 
    (hJ : AbC W.heap.size 25 J)
    (hY : ∀ pre x W, J pre W → (∃ s, pre ++ x :: s = f.pre) → YieldAt Fence.wide (n_ - 1) Tryd.prog l #[trV x] W fun e W' =>
      (e = .returned (.bool true) ∧ J (pre ++ [x]) W' ∧ KpC B W W') ∨ (e = .returned (.bool false) ∧ Jx (pre ++ [x]) W'))
    (hBs : Boxed W Bs 23 vl) (hR : RdX W.heap.size W vl f.top) (hL0 : TyL B W f) (h0 : J [] W) :
    CallsIn Fence.wide n_ Tryd.prog 73 #[.func (.yield l) #[] #[], .pointer (some ⟨Bs, 0, none⟩)] W fun e W' => (∃ v, e = .returned v) ∧
      ((∃ ys : List Tr, ys = f.pre ∧ J ys W') ∨ (∃ pre, (pre ≠ [] ∧ ∃ s, pre ++ s = f.pre) ∧ Jx pre W')) := by
  refine callsIn_of_wp Tryd.func73 rfl trivial ?_ rfl
  simp only [Tryd.ntmps73, List.size_toArray, List.length_cons, List.length_nil, Nat.reduceAdd, Nat.reduceSub, Array.replicate_succ, Array.replicate_zero, List.push_toArray, List.append_toArray, List.nil_append, List.cons_append]
  have e00 : W.cell? ⟨Bs, 0, none⟩ = some vl := hBs.cell
  obtain ⟨A, c, hv, _⟩ := id hR
  have HBS := Lib.hid hBs
  have HV := Lib.hid hv
  clear hBs hv
  have own0 : W.ownsRow W.heap.size 25 3 (.slice none 0 0) 0 [] := ⟨rfl, .inl ⟨rfl, rfl⟩⟩
  gi_wp2_with (refine ⟨trivial, ?_⟩; gi_at_call 74)
  refine (callsIn_wide.2 (backs_any W W.heap.size W.heap.size (.slice none 0 0) vl [] 0 f.top own0 (Nat.le_refl _) (Nat.le_refl _) hR (by rw [Fo.top_len]; exact Nat.le_trans f.len_le_size hf) (by omega))).mono ?_
  rintro e w0 ⟨v0, rfl, hown0, hg0, _⟩
  have hinv : AllInv W B f J v0 w0 f.size := by
    refine ⟨f, [], rfl, ?_, hL0.below ((Below.refl _ _).grown hg0 hB (fun k e => by cases e)), rfl, hJ _ _ _ h0 ⟨_, hg0, fun r e => by cases e⟩, (Below.refl _ _).grown hg0 hB (fun k e => by cases e), hg0.size⟩
    simpa [stk, Fo.top_len] using hown0
  clear hown0 hg0 h0 own0
  gi_wp2
  gi_loopw [3] (fun i wr => ∃ k, AllInv W B f J i wr k) (fun i wr => least (AllInv W B f J i wr))
  case atStart => exact ⟨_, hinv⟩
  case round =>
    obtain ⟨k, hk⟩ := hrel
    obtain ⟨⟨R, pre, hRk, hown, hL, hpre, hJs, hb, hsz⟩, _⟩ := least_of hk
    have HM := Lib.hid hRk
    clear hRk hk
    have HP := Lib.hid hpre
    clear hpre
    cases R with
    | nil =>
      obtain ⟨A1, c1, rfl, _, _⟩ := own_form hown
      dsimp only [Fo.len]
      gi_wp2
      go_end0
      exact ⟨⟨_, rfl⟩, .inl ⟨pre, by simpa [Fo.pre] using HP.out, hJs⟩⟩
    | cons k n u ps r =>
      have hpl : ∃ s, pre ++ (k, n, u) :: s = f.pre := ⟨ps.pre ++ r.pre, HP.out⟩
      have hrs : r.len ≤ 1000000 := by
        have h2 := congrArg List.length HP.out
        rw [List.length_append, Fo.pre_len, Fo.pre_len] at h2
        simp only [Fo.size] at h2
        have := r.len_le_size
        omega
      dsimp only [Fo.len] at hown
      obtain ⟨g, cp, rfl, hg1, hg2⟩ := own_shape hown (by omega)
      rw [stk_cons] at hown
      have hsl := stk_len r
      obtain ⟨hps, hLr⟩ := hL
      obtain ⟨q, hq⟩ : ∃ q, r.len = q := ⟨_, rfl⟩
      rw [hq] at hown hsl hrs ⊢
      have c0 : wr.cell? ⟨g, q * 3, none⟩ = some (.int .i64 k) := by rw [hown.cellAt _ (by omega), List.getElem?_append_right (by omega), hsl]; simp [trC]
      have c1 : wr.cell? ⟨g, q * 3 + 1, none⟩ = some (.int .i64 n) := by rw [hown.cellAt _ (by omega), List.getElem?_append_right (by omega), hsl]; simp [trC]
      have c2 : wr.cell? ⟨g, q * 3 + 2, none⟩ = some (slv u) := by rw [hown.cellAt _ (by omega), List.getElem?_append_right (by omega), hsl]; simp [trC]
      obtain ⟨u1, u2, u3⟩ := u
      dsimp only [slv] at c2
      have HQ := Lib.hid hq
      have HS := Lib.hid hsl
      have HO := Lib.hid hown
      clear hq hsl hown
      obtain ⟨W1, hW1⟩ : ∃ W1, W1 = wr.alloc (.cells #[.int .i64 k, .int .i64 n, .slice u1 u2 u3] 25) := ⟨_, rfl⟩
      have hJ1 : J pre W1 := by rw [hW1]; exact hJ _ _ _ hJs ⟨none, World.grownBy_alloc wr _ none, fun r e => by cases e⟩
      obtain ⟨fn, tmps, assign, body, hy, hR2⟩ := hY pre (k, n, (u1, u2, u3)) W1 hJ1 hpl
      dsimp only [trV, slv] at hy
      rw [hW1] at hy hR2
      have HW1 := Lib.hid hW1
      clear hW1
      gi_wp2
      refine hR2.mono ?_
      rintro e W3 (⟨rfl, hJ3, hk3⟩ | ⟨rfl, hJx3⟩)
      · have hbx : W3.heap[wr.heap.size]? = some (Obj.cells #[.int .i64 k, .int .i64 n, .slice u1 u2 u3] 25) := hk3.kept _ _ (World.alloc_heap_new wr _)
        have x2 : W3.cell? ⟨wr.heap.size, 2, none⟩ = some (.slice u1 u2 u3) := by
          have := cell_of_row W3 wr.heap.size 2 _ _ (0, 0) hbx
          rw [this]; rfl
        have hb3 : Below B W W3 := hb.trans (((Below.refl B wr).alloc (by omega) _).trans hk3.below)
        have hs3 : W.heap.size ≤ W3.heap.size := by have := hk3.below.size; simp at this; omega
        have own3 : W3.ownsRow W.heap.size 25 3 (.slice (some ⟨g, 0, none⟩) q cp) q (stk r) := own_cut (hk3.own (HO.out.alloc _)) q (by omega) HS.out
        have hps3 : TyV B W3 ps (slv (u1, u2, u3)) := hps.below (((Below.refl B wr).alloc (by omega) _).trans hk3.below)
        have hLr3 : TyL B W3 r := hLr.below (((Below.refl B wr).alloc (by omega) _).trans hk3.below)
        have hpn : ps.len ≤ 1000000 := by
          have h2 := congrArg List.length HP.out
          rw [List.length_append, Fo.pre_len, Fo.pre_len] at h2
          simp only [Fo.size] at h2
          have := ps.len_le_size
          omega
        have hcp : q + 1 ≤ cp := by
          obtain ⟨_, _, hv, h1, _⟩ := own_form HO.out
          injection hv with _ _ h3
          omega
        have FB := Lib.hid ((callsIn_wide (n := n_ - 1)).2 (backs_any W3.drew W.heap.size B (.slice (some ⟨g, 0, none⟩) q cp) (.slice u1 u2 u3) (stk r) q ps.top own3.drew hB hs3 (hps3.below (Below.refl B W3).drew).rd (by rw [Fo.top_len]; exact hpn) (by omega)))
        have hz : decide ((q : Int) ≤ (cp : Int)) = true := by simp; omega
        have hz0 : (0 : Int) ≤ (q : Int) := by omega
        have fin : ∀ (v' : Value) (w' : World), w'.ownsRow W.heap.size 25 3 v' (q + ps.top.length) (stk r ++ ps.top.reverse.flatMap trC) → W3.drew.grownBy w' (some g) → AllInv W B f J v' w' (ps.app r).size := by
          intro v' w' hown' hgd
          have hg' : W3.grownBy w' (some g) := ⟨hgd.os, hgd.tape, hgd.output, hgd.size, hgd.block⟩
          obtain ⟨_, cap, cur, hv, _, hgo, _⟩ := own3.2.resolve_left (by rintro ⟨h, _⟩; cases h)
          injection hv with hv _ _
          injection hv with hv
          injection hv with hv
          subst hv
          have hgB : Below B W3 w' := (Below.refl _ _).grown hg' (by omega) (fun k e => by cases e; omega)
          refine ⟨ps.app r, pre ++ [(k, n, (u1, u2, u3))], rfl, ?_, (hps3.list.below hgB).app (hLr3.below hgB), ?_, hJ _ _ _ hJ3 ⟨_, hg', fun r e => by cases e; exact ⟨hg1, _, hgo⟩⟩, hb3.trans hgB, Nat.le_trans hs3 hg'.size⟩
          · rw [stk_app, Fo.len_app, HQ.out, ← Fo.top_len ps, Nat.add_comm]
            exact hown'
          · rw [← HP.out, List.append_assoc, Fo.pre_next]; rfl
        have FN := Lib.hid fin
        have hmix : Tryd.prog.follows Departure.mixedOrders = true := by kernel_rfl
        clear hbx own3 hps3 hLr3 hb3 fin
        gi_wp2
        gi_region_with_o (refine ⟨trivial, ?_⟩; gi_at_call 74; refine FB.out.mono ?_; rintro e w4 ⟨v4, rfl, hown4, hg4, _⟩)
        all_goals
          have hfin := FN.out v4 w4 hown4 hg4
          clear hown4 hg4
          go_simp
          gi_wp2
          go_roundw
          case rel => exact ⟨_, hfin⟩
          case measure =>
            refine Nat.lt_of_le_of_lt (least_of hfin).2 (Nat.lt_of_lt_of_le ?_ (Nat.le_of_eq (HQ.out ▸ HM.out)))
            rw [Fo.size_app]
            simp only [Fo.size]
            omega
      · gi_wp2
        refine bodyPost_ret (results_none rfl _ _ _) rfl ?_
        exact ⟨⟨_, rfl⟩, .inr ⟨_, ⟨by simp, _, by rw [List.append_assoc, ← HP.out]; rfl⟩, hJx3⟩⟩
/-- types.all: the list is boxed, the function that comes has the box. -/
theorem all_seqG (n : Nat) (hn : 1 ≤ n) (Bs B : Nat) (vl : Value) (f : Fo) (hf : f.size ≤ 1000000) (w : World) (hB : B ≤ w.heap.size) (hBs : Boxed w Bs 23 vl) (hR : RdX w.heap.size w vl f.top) (hL : TyL B w f) :
    SeqG n Tryd.prog 73 #[.pointer (some ⟨Bs, 0, none⟩)] 25 (fun x : Tr => #[trV x]) (KpC B) (fun ys => ys = f.pre) (fun pre => pre ≠ [] ∧ ∃ s, pre ++ s = f.pre) (fun pre x => ∃ s, pre ++ x :: s = f.pre) w := by
  intro l J Jx W hW hJ _ hY h0
  exact all1G n hn l Bs B vl f hf J Jx W (Nat.le_trans hB hW.size) hJ hY ((hW.block Bs hBs.lt).trans hBs) ((hR.below hW).mono hW.size) (hL.below (hW.mono hB)) h0
end Go.Proofs.YtifdbmdfkhnojaaDoor
/- The answer's Right. -/
namespace Go.Proofs.YtifdbmdfkhnojaaDoor
open Go.RowKit

theorem Fo.pre_split (f : Fo) (j : Nat) (hj : j < f.len) : f.pre = (f.take j).pre ++ (((f.at_ j).1, (f.at_ j).2.1, (f.at_ j).2.2.1) :: (f.at_ j).2.2.2.pre) ++ (f.drop (j + 1)).pre := by
  induction f generalizing j with
  | nil => simp [Fo.len] at hj
  | cons k n v ps r _ ih =>
    cases j with
    | zero => simp [Fo.at_, Fo.pre, Fo.take, Fo.drop]
    | succ j =>
      have := ih j (by simp [Fo.len] at hj; omega)
      simp only [Fo.pre, Fo.take, Fo.at_, Fo.drop]
      rw [this]
      simp
theorem Fo.pre_take (f : Fo) (j : Nat) (hj : j < f.len) : (f.take (j + 1)).pre = (f.take j).pre ++ (((f.at_ j).1, (f.at_ j).2.1, (f.at_ j).2.2.1) :: (f.at_ j).2.2.2.pre) := by
  rw [Fo.take_step f j hj, Fo.pre_app]
  simp [Fo.pre]
theorem allAlone_appJ (a b : List Tr) : allAlone (a ++ b) = (allAlone a && allAlone b) := by simp [allAlone]
theorem allAlone_cons (x : Tr) (b : List Tr) : allAlone (x :: b) = (alone x.1 x.2.1 x.2.2.2.1 && allAlone b) := by simp [allAlone]
theorem TyV.len {B : Nat} {w : World} {f : Fo} {u : Sl} (h : TyV B w f (slv u)) : u.2.1 = f.len := by
  obtain ⟨A, c, hv⟩ := h.slice
  unfold slv at hv
  injection hv
set_option maxHeartbeats 2000000 in
set_option maxRecDepth 100000 in
theorem rright_any (m : Nat) : ∀ (f : Fo) (k n : Int) (v : Value) (w : World), f.size < m → f.size ≤ 1000000 → TyV w.heap.size w f v →
    Calls Tryd.prog 39 #[tyVal k n v] w fun e w' => e = .returned (.bool (alone k n f.len && allAlone f.pre)) ∧ Below w.heap.size w w' := by
  induction m with
  | zero => intro f k n v w h; omega
  | succ m ih =>
    intro f k n v w hm hs h
    obtain ⟨A, c, rfl⟩ := h.slice
    have H := Lib.hid h
    have IH := Lib.hid ih
    have hll := f.len_le_size
    clear h ih
    unfold tyVal
    go_enter Tryd.func39, Tryd.ntmps39
    obtain ⟨q, hq⟩ : ∃ q, f.len = q := ⟨_, rfl⟩
    rw [hq] at hll ⊢
    have HB0 := Lib.hid (show ∀ (cs : Array Value) (t : TypeId), Below w.heap.size w (w.alloc (Obj.cells cs t)) from fun cs t => (Below.refl _ w).alloc (Nat.le_refl _) _)
    have HQ := Lib.hid hq
    clear hq
    have done : alone k n q = false → ∀ (cs : Array Value) (t : TypeId), (Ending.returned (.bool false) = .returned (.bool (alone k n q && allAlone f.pre)) ∧ Below w.heap.size w (w.alloc (Obj.cells cs t))) := by
      intro h1 cs t
      rw [h1]
      exact ⟨rfl, HB0.out _ _⟩
    have DONE := Lib.hid done
    clear done
    by_cases h1 : k = 1
    case' pos =>
      subst h1
      by_cases h2 : n < 0
      · have f2 : decide (n < 0) = true := decide_eq_true h2
        go_wp2_with fail
        go_ret
        exact DONE.out (by unfold alone; rw [if_pos rfl, decide_eq_false (by omega : ¬ 0 ≤ n)]; rfl) _ _
      have f2 : decide (n < 0) = false := decide_eq_false h2
      by_cases h3 : 1073741824 ≤ n
      · have f3 : decide (1073741824 ≤ n) = true := decide_eq_true h3
        go_wp2_with fail
        go_ret
        exact DONE.out (by unfold alone; rw [if_pos rfl, decide_eq_false (by omega : ¬ n < 1073741824)]; simp) _ _
      have f3 : decide (1073741824 ≤ n) = false := decide_eq_false h3
      by_cases h4 : 0 < q
      · have f5 : decide (0 < q) = true := decide_eq_true h4
        go_wp2_with fail
        go_ret
        exact DONE.out (by unfold alone; rw [if_pos rfl, beq_eq_false_iff_ne.2 (by omega : (q : Int) ≠ 0)]; simp) _ _
      have hal : alone 1 n q = true := by
        obtain rfl : q = 0 := by omega
        unfold alone
        rw [if_pos rfl, decide_eq_true (by omega : 0 ≤ n), decide_eq_true (by omega : n < 1073741824)]
        rfl
      have HA := Lib.hid hal
      have f5 : decide (0 < q) = false := decide_eq_false h4
      clear hal h2 h3 h4
      go_wp2_with fail
    case' neg =>
      by_cases h2 : n = 0
      case neg =>
        have f1 : (k == 1) = false := beq_eq_false_iff_ne.2 h1
        have f2 : (n != 0) = true := bne_iff_ne.2 h2
        go_wp2_with fail
        go_ret
        refine DONE.out ?_ _ _
        unfold alone
        simp [h1, h2]
      subst h2
      by_cases h2 : k = 2
      case' pos =>
        subst h2
        by_cases h4 : 0 < q
        · have f5 : decide (0 < q) = true := decide_eq_true h4
          go_wp2_with fail
          go_ret
          exact DONE.out (by unfold alone; simp; omega) _ _
        have hal : alone 2 0 q = true := by obtain rfl : q = 0 := by omega
                                            rfl
        have HA := Lib.hid hal
        have f5 : decide (0 < q) = false := decide_eq_false h4
        clear hal h4 h1
        go_wp2_with fail
      case' neg =>
        by_cases h3 : k = 3
        case' pos =>
          subst h3
          by_cases h4 : 0 < q
          · have f5 : decide (0 < q) = true := decide_eq_true h4
            go_wp2_with fail
            go_ret
            exact DONE.out (by unfold alone; simp; omega) _ _
          have hal : alone 3 0 q = true := by obtain rfl : q = 0 := by omega
                                              rfl
          have HA := Lib.hid hal
          have f5 : decide (0 < q) = false := decide_eq_false h4
          clear hal h4 h1 h2
          go_wp2_with fail
        case' neg =>
          by_cases h4 : k = 4
          case' pos =>
            subst h4
            by_cases h5 : q = 2
            case neg =>
              have f5 : ((q : Int) != 2) = true := bne_iff_ne.2 (by omega)
              go_wp2_with fail
              go_ret
              exact DONE.out (by unfold alone; simp; omega) _ _
            have f5 : ((q : Int) != 2) = false := by rw [h5]; rfl
            have hal : alone 4 0 q = true := by rw [h5]; rfl
            have HA := Lib.hid hal
            clear hal h5 h1 h2 h3
            go_wp2_with fail
          case' neg =>
            by_cases h5 : k = 5
            case' pos =>
              subst h5
              by_cases h6 : q < 2
              · have f5 : decide (q < 2) = true := decide_eq_true h6
                go_wp2_with fail
                go_ret
                exact DONE.out (by unfold alone; simp; omega) _ _
              have f5 : decide (q < 2) = false := decide_eq_false h6
              by_cases h7 : 8 < q
              · have f6 : decide (8 < q) = true := decide_eq_true h7
                go_wp2_with fail
                go_ret
                exact DONE.out (by unfold alone; simp; omega) _ _
              have f6 : decide (8 < q) = false := decide_eq_false h7
              have hal : alone 5 0 q = true := by unfold alone; simp; omega
              have HA := Lib.hid hal
              clear hal h1 h2 h3 h4
              go_wp2_with fail
              all_goals try (exfalso; omega)
            case' neg =>
              have f1 : (k == 1) = false := beq_eq_false_iff_ne.2 h1
              have f2 : (k == 2) = false := beq_eq_false_iff_ne.2 h2
              have f3 : (k == 3) = false := beq_eq_false_iff_ne.2 h3
              have f4 : (k == 4) = false := beq_eq_false_iff_ne.2 h4
              have f5 : (k == 5) = false := beq_eq_false_iff_ne.2 h5
              by_cases h6 : k < 1
              · have f6 : decide (k < 1) = true := decide_eq_true h6
                go_wp2_with fail
                go_ret
                exact DONE.out (by unfold alone; simp [h1, h2, h3, h4, h5]) _ _
              · have f6 : decide (k < 1) = false := decide_eq_false h6
                have f7 : decide (5 < k) = true := decide_eq_true (by omega)
                go_wp2_with fail
                go_ret
                exact DONE.out (by unfold alone; simp [h1, h2, h3, h4, h5]) _ _
    all_goals
      go_loopw [4] (fun t4 wr => ∃ j : Nat, j ≤ q ∧ t4 = .int .i64 j ∧ allAlone (f.take j).pre = true ∧ wr.cell? ⟨w.heap.size, 2, none⟩ = some (.slice A q c) ∧ Below w.heap.size w wr ∧ w.heap.size + 1 ≤ wr.heap.size) (fun t _ => q - (intOf t).toNat)
      case atStart => exact ⟨0, Nat.zero_le _, rfl, by simp [Fo.take_zero, Fo.pre, allAlone], by go_simp, HB0.out _ _, by simp⟩
      case round =>
        obtain ⟨j, hj, rfl, hja, e2, hb, hz⟩ := hrel
        have HB := Lib.hid hb
        have HJA := Lib.hid hja
        clear hja hb
        by_cases hjl : j < q
        · have hjf : j < f.len := by rw [HQ.out]; exact hjl
          obtain ⟨b, off, cap, hv, _, _, hlt, hC⟩ := H.out.form (by omega)
          injection hv with hA _ hcc
          subst hA; subst hcc
          obtain ⟨d0, d1, d2, hch⟩ := tyC_at hC j hjf
          have c0 := (HB.out.cell (p := ⟨b, off + j * 3, none⟩) hlt).trans d0
          have c1 := (HB.out.cell (p := ⟨b, off + j * 3 + 1, none⟩) hlt).trans d1
          have c2 := (HB.out.cell (p := ⟨b, off + j * 3 + 2, none⟩) hlt).trans d2
          have hch' : TyV wr.heap.size wr (f.at_ j).2.2.2 (slv (f.at_ j).2.2.1) := (hch.keep HB.out.size fun b off hb' => HB.out.cell (p := ⟨b, off, none⟩) hb')
          have hsz := f.at_size j hjf
          have hsp := f.pre_split j hjf
          have htk := f.pre_take j hjf
          have hpl := hch.len
          have hrec := IH.out (f.at_ j).2.2.2 (f.at_ j).1 (f.at_ j).2.1 (slv (f.at_ j).2.2.1) wr (by omega) (by omega) hch'
          clear d0 d1 d2 hC hch hch' hsz
          unfold tyVal at hrec
          generalize f.at_ j = p at *
          obtain ⟨pk, pn, pv, pf⟩ := p
          dsimp only at hsp htk hpl hrec c0 c1 c2
          obtain ⟨x, hx⟩ : ∃ x, (alone pk pn pf.len && allAlone pf.pre) = x := ⟨_, rfl⟩
          rw [hx] at hrec
          have hxa : allAlone ((pk, pn, pv) :: pf.pre) = x := by rw [allAlone_cons, ← hx, hpl]
          have HREC := Lib.hid hrec
          have HSP := Lib.hid (show allAlone f.pre = (x && allAlone (f.drop (j + 1)).pre) by rw [hsp, allAlone_appJ, allAlone_appJ, HJA.out, hxa]; rfl)
          have HTK := Lib.hid (show allAlone (f.take (j + 1)).pre = x by rw [htk, allAlone_appJ, HJA.out, hxa]; rfl)
          clear hrec hsp htk hpl hx hxa hjf
          go_wp2_with fail
          refine HREC.out.mono ?_
          rintro e w2 ⟨rfl, hb3⟩
          have e2' := (hb3.cell (p := ⟨w.heap.size, 2, none⟩) (by simp only; omega)).trans e2
          have HB3 := Lib.hid hb3
          clear hb3
          cases x
          · go_wp2_with fail
            go_ret
            exact ⟨ret_bool (by rw [HA.out, HSP.out]; rfl), HB.out.trans (HB3.out.mono (by omega))⟩
          · go_wp2_with fail
            go_roundw
            case rel => exact ⟨j + 1, by omega, by go_num, HTK.out, e2', HB.out.trans (HB3.out.mono (by omega)), Nat.le_trans hz HB3.out.size⟩
            case measure => simp [intOf]; omega
        · obtain rfl : j = q := by omega
          have HT : Hid (f.take j = f) := Lib.hid (by rw [← HQ.out]; exact f.take_len)
          go_wp2_with fail
          go_ret
          exact ⟨ret_bool (by rw [HA.out, ← HT.out, HJA.out]; rfl), HB.out⟩
end Go.Proofs.YtifdbmdfkhnojaaDoor
/- The answer's In. -/
namespace Go.Proofs.YtifdbmdfkhnojaaDoor
open Go.RowKit

set_option maxHeartbeats 1000000 in
theorem rin_any (L : List Int) (vl : Value) (v : Int) (w : World) (hR : Rd w 1 vl L.length (L.map (Value.int .i64))) (hl : L.length ≤ 1000000) :
    Calls Tryd.prog 48 #[vl, .int .i64 v] w fun e w' => e = .returned (.bool (decide (v ∈ L))) ∧ Below w.heap.size w w' := by
  obtain ⟨A, c, rfl⟩ : ∃ A c, vl = .slice A L.length c := by
    rcases hR.2 with ⟨h0, A, c, h⟩ | ⟨b, off, cap, h, _⟩
    · exact ⟨A, c, by rw [h, h0]⟩
    · exact ⟨_, cap, h⟩
  obtain ⟨q, hq⟩ : ∃ q, L.length = q := ⟨_, rfl⟩
  have H := Lib.hid hR
  have HQ := Lib.hid hq
  rw [hq] at hl ⊢
  clear hR hq
  go_enter Tryd.func48, Tryd.ntmps48
  go_wp2_with fail
  go_loopw [5] (fun t wr => ∃ j : Nat, j ≤ q ∧ t = .int .i64 j ∧ (L.take j).contains v = false ∧ Below w.heap.size w wr) (fun t _ => q - (intOf t).toNat)
  case atStart => exact ⟨0, Nat.zero_le _, rfl, by simp, Below.refl _ _⟩
  case round =>
    obtain ⟨j, hj, rfl, hja, hb⟩ := hrel
    have HB := Lib.hid hb
    have HJA := Lib.hid hja
    clear hja hb
    by_cases hjl : j < q
    · have hjL : j < L.length := by rw [HQ.out]; exact hjl
      obtain ⟨b, off, cap, hv, _, _, hlt, hc⟩ := H.out.2.resolve_left (by rintro ⟨h, _⟩; omega)
      injection hv with hA _ hcc
      subst hA; subst hcc
      obtain ⟨x, hx⟩ : ∃ x, L[j] = x := ⟨_, rfl⟩
      have c0 : wr.cell? ⟨b, off + j, none⟩ = some (.int .i64 x) := (HB.out.cell (p := ⟨b, off + j, none⟩) hlt).trans (hc j _ (by rw [List.getElem?_map, List.getElem?_eq_getElem hjL, hx]; rfl))
      have htk : L.take (j + 1) = L.take j ++ [x] := by rw [← hx]; exact (List.take_append_getElem hjL).symm
      by_cases hxv : x = v
      · have f1 : (x == v) = true := by simp [hxv]
        have hmem : decide (v ∈ L) = true := by
          refine decide_eq_true ?_
          rw [← hxv, ← hx]
          exact List.getElem_mem hjL
        have HM := Lib.hid hmem
        clear htk hx hc hxv hmem
        go_wp2_with fail
        go_ret
        exact ⟨ret_bool HM.out.symm, HB.out⟩
      · have f1 : (x == v) = false := beq_eq_false_iff_ne.2 hxv
        have hnm : (L.take (j + 1)).contains v = false := by
          rw [htk]
          have h1 := HJA.out
          simp only [List.contains_eq_mem, decide_eq_false_iff_not, List.mem_append, List.mem_singleton, not_or] at h1 ⊢
          exact ⟨h1, fun e => hxv e.symm⟩
        have HM := Lib.hid hnm
        clear htk hx hc hxv hnm
        go_wp2_with fail
        go_roundw
        case rel => exact ⟨j + 1, by omega, by go_num, HM.out, HB.out⟩
        case measure => simp [intOf]; omega
    · obtain rfl : j = q := by omega
      have hT : decide (v ∈ L) = false := by
        have := HJA.out
        rw [← HQ.out, List.take_length] at this
        simpa using this
      have HT := Lib.hid hT
      clear hT
      go_wp2_with fail
      go_ret
      exact ⟨ret_bool HT.out.symm, HB.out⟩
end Go.Proofs.YtifdbmdfkhnojaaDoor
