/- Texts of one proof, one behind the other. -/
import Derived.Test.YtfoangiphbmipaaMgTermOrder5
import Derived.Test.YtfoangiphbmipaaMgTermOrder9
import Derived.Test.YtfoangiphbmipaaMgTermOrder2
import Derived.Test.YtfoangiphbmipaaMgTermOrder16
import Derived.Test.YtfoangiphbmipaaMgTermOrder3
import Derived.Deep.DeepCutAuto
import Derived.Deep.RegionWith
/- types.all's function, where it is known what may come next. -/
namespace Go.Proofs.Ytfoangiphbmipaa
open Go.RowKit Go.Shelf
attribute [local go_sem] Oper.semAt_some
set_option maxRecDepth 100000 in
set_option maxHeartbeats 2000000 in
theorem all1G (n_ : Nat) (hn : 1 ≤ n_) (l Bs B : Nat) (vl : Value) (f : Fo) (hf : f.size ≤ 1000000) (J Jx : List Tr → World → Prop) (W : World) (hB : B ≤ W.heap.size) 
    (hJ : AbC W.heap.size 24 J)
    (hY : ∀ pre x W, J pre W → (∃ s, pre ++ x :: s = f.pre) → YieldAt Fence.wide (n_ - 1) Try.prog l #[trV x] W fun e W' =>
      (e = .returned (.bool true) ∧ J (pre ++ [x]) W' ∧ KpC B W W') ∨ (e = .returned (.bool false) ∧ Jx (pre ++ [x]) W'))
    (hBs : Boxed W Bs 22 vl) (hR : RdX W.heap.size W vl f.top) (hL0 : TyL B W f) (h0 : J [] W) :
    CallsIn Fence.wide n_ Try.prog 50 #[.func (.yield l) #[] #[], .pointer (some ⟨Bs, 0, none⟩)] W fun e W' => (∃ v, e = .returned v) ∧
      ((∃ ys : List Tr, ys = f.pre ∧ J ys W') ∨ (∃ pre, (pre ≠ [] ∧ ∃ s, pre ++ s = f.pre) ∧ Jx pre W')) := by
  refine callsIn_of_wp Try.func50 rfl trivial ?_ rfl
  simp only [Try.ntmps50, List.size_toArray, List.length_cons, List.length_nil, Nat.reduceAdd, Nat.reduceSub, Array.replicate_succ, Array.replicate_zero, List.push_toArray, List.append_toArray, List.nil_append, List.cons_append]
  have e00 : W.cell? ⟨Bs, 0, none⟩ = some vl := hBs.cell
  obtain ⟨A, c, hv, _⟩ := id hR
  have HBS := Lib.hid hBs
  have HV := Lib.hid hv
  clear hBs hv
  have own0 : W.ownsRow W.heap.size 24 3 (.slice none 0 0) 0 [] := ⟨rfl, .inl ⟨rfl, rfl⟩⟩
  gi_wp2_with (refine ⟨trivial, ?_⟩; gi_at_call 51)
  refine (callsIn_wide.2 (backs_any W W.heap.size W.heap.size (.slice none 0 0) vl [] 0 f.top own0 (Nat.le_refl _) (Nat.le_refl _) hR (by rw [Fo.top_len]; exact Nat.le_trans f.len_le_size hf) (by omega))).mono ?_
  rintro e w0 ⟨v0, rfl, hown0, hg0, _⟩
  have hinv : AllInv W B f J v0 w0 f.size := by
    refine ⟨f, [], rfl, ?_, hL0.below ((Below.refl _ _).grown hg0 hB (fun k e => by cases e)), rfl, hJ _ _ _ h0 ⟨_, hg0, fun r e => by cases e⟩, (Below.refl _ _).grown hg0 hB (fun k e => by cases e), hg0.size⟩
    simpa [stk, Fo.top_len] using hown0
  clear hown0 hg0 h0 own0
  gi_wp2
  gi_loopw [3] (fun i wr => ∃ k, AllInv W B f J i wr k) (fun i wr => least (AllInv W B f J i wr))
  case atStart => exact ⟨_, hinv⟩
  case round =>
    obtain ⟨k, hk⟩ := hrel
    obtain ⟨⟨R, pre, hRk, hown, hL, hpre, hJs, hb, hsz⟩, _⟩ := least_of hk
    have HM := Lib.hid hRk
    clear hRk hk
    have HP := Lib.hid hpre
    clear hpre
    cases R with
    | nil =>
      obtain ⟨A1, c1, rfl, _, _⟩ := own_form hown
      dsimp only [Fo.len]
      gi_wp2
      go_end0
      exact ⟨⟨_, rfl⟩, .inl ⟨pre, by simpa [Fo.pre] using HP.out, hJs⟩⟩
    | cons k n u ps r =>
      have hpl : ∃ s, pre ++ (k, n, u) :: s = f.pre := ⟨ps.pre ++ r.pre, HP.out⟩
      have hrs : r.len ≤ 1000000 := by
        have h2 := congrArg List.length HP.out
        rw [List.length_append, Fo.pre_len, Fo.pre_len] at h2
        simp only [Fo.size] at h2
        have := r.len_le_size
        omega
      dsimp only [Fo.len] at hown
      obtain ⟨g, cp, rfl, hg1, hg2⟩ := own_shape hown (by omega)
      rw [stk_cons] at hown
      have hsl := stk_len r
      obtain ⟨hps, hLr⟩ := hL
      obtain ⟨q, hq⟩ : ∃ q, r.len = q := ⟨_, rfl⟩
      rw [hq] at hown hsl hrs ⊢
      have c0 : wr.cell? ⟨g, q * 3, none⟩ = some (.int .i64 k) := by rw [hown.cellAt _ (by omega), List.getElem?_append_right (by omega), hsl]; simp [trC]
      have c1 : wr.cell? ⟨g, q * 3 + 1, none⟩ = some (.int .i64 n) := by rw [hown.cellAt _ (by omega), List.getElem?_append_right (by omega), hsl]; simp [trC]
      have c2 : wr.cell? ⟨g, q * 3 + 2, none⟩ = some (slv u) := by rw [hown.cellAt _ (by omega), List.getElem?_append_right (by omega), hsl]; simp [trC]
      obtain ⟨u1, u2, u3⟩ := u
      dsimp only [slv] at c2
      have HQ := Lib.hid hq
      have HS := Lib.hid hsl
      have HO := Lib.hid hown
      clear hq hsl hown
      obtain ⟨W1, hW1⟩ : ∃ W1, W1 = wr.alloc (.cells #[.int .i64 k, .int .i64 n, .slice u1 u2 u3] 24) := ⟨_, rfl⟩
      have hJ1 : J pre W1 := by rw [hW1]; exact hJ _ _ _ hJs ⟨none, World.grownBy_alloc wr _ none, fun r e => by cases e⟩
      obtain ⟨fn, tmps, assign, body, hy, hR2⟩ := hY pre (k, n, (u1, u2, u3)) W1 hJ1 hpl
      dsimp only [trV, slv] at hy
      rw [hW1] at hy hR2
      have HW1 := Lib.hid hW1
      clear hW1
      gi_wp2
      refine hR2.mono ?_
      rintro e W3 (⟨rfl, hJ3, hk3⟩ | ⟨rfl, hJx3⟩)
      · have hbx : W3.heap[wr.heap.size]? = some (Obj.cells #[.int .i64 k, .int .i64 n, .slice u1 u2 u3] 24) := hk3.kept _ _ (World.alloc_heap_new wr _)
        have x2 : W3.cell? ⟨wr.heap.size, 2, none⟩ = some (.slice u1 u2 u3) := by
          have := cell_of_row W3 wr.heap.size 2 _ _ (0, 0) hbx
          rw [this]; rfl
        have hb3 : Below B W W3 := hb.trans (((Below.refl B wr).alloc (by omega) _).trans hk3.below)
        have hs3 : W.heap.size ≤ W3.heap.size := by have := hk3.below.size; simp at this; omega
        have own3 : W3.ownsRow W.heap.size 24 3 (.slice (some ⟨g, 0, none⟩) q cp) q (stk r) := own_cut (hk3.own (HO.out.alloc _)) q (by omega) HS.out
        have hps3 : TyV B W3 ps (slv (u1, u2, u3)) := hps.below (((Below.refl B wr).alloc (by omega) _).trans hk3.below)
        have hLr3 : TyL B W3 r := hLr.below (((Below.refl B wr).alloc (by omega) _).trans hk3.below)
        have hpn : ps.len ≤ 1000000 := by
          have h2 := congrArg List.length HP.out
          rw [List.length_append, Fo.pre_len, Fo.pre_len] at h2
          simp only [Fo.size] at h2
          have := ps.len_le_size
          omega
        have hcp : q + 1 ≤ cp := by
          obtain ⟨_, _, hv, h1, _⟩ := own_form HO.out
          injection hv with _ _ h3
          omega
        have FB := Lib.hid ((callsIn_wide (n := n_ - 1)).2 (backs_any W3.drew W.heap.size B (.slice (some ⟨g, 0, none⟩) q cp) (.slice u1 u2 u3) (stk r) q ps.top own3.drew hB hs3 (hps3.below (Below.refl B W3).drew).rd (by rw [Fo.top_len]; exact hpn) (by omega)))
        have hz : decide ((q : Int) ≤ (cp : Int)) = true := by simp; omega
        have hz0 : (0 : Int) ≤ (q : Int) := by omega
        have fin : ∀ (v' : Value) (w' : World), w'.ownsRow W.heap.size 24 3 v' (q + ps.top.length) (stk r ++ ps.top.reverse.flatMap trC) → W3.drew.grownBy w' (some g) → AllInv W B f J v' w' (ps.app r).size := by
          intro v' w' hown' hgd
          have hg' : W3.grownBy w' (some g) := ⟨hgd.os, hgd.tape, hgd.output, hgd.size, hgd.block⟩
          obtain ⟨_, cap, cur, hv, _, hgo, _⟩ := own3.2.resolve_left (by rintro ⟨h, _⟩; cases h)
          injection hv with hv _ _
          injection hv with hv
          injection hv with hv
          subst hv
          have hgB : Below B W3 w' := (Below.refl _ _).grown hg' (by omega) (fun k e => by cases e; omega)
          refine ⟨ps.app r, pre ++ [(k, n, (u1, u2, u3))], rfl, ?_, (hps3.list.below hgB).app (hLr3.below hgB), ?_, hJ _ _ _ hJ3 ⟨_, hg', fun r e => by cases e; exact ⟨hg1, _, hgo⟩⟩, hb3.trans hgB, Nat.le_trans hs3 hg'.size⟩
          · rw [stk_app, Fo.len_app, HQ.out, ← Fo.top_len ps, Nat.add_comm]
            exact hown'
          · rw [← HP.out, List.append_assoc, Fo.pre_next]; rfl
        have FN := Lib.hid fin
        have hmix : Try.prog.follows Departure.mixedOrders = true := by kernel_rfl
        clear hbx own3 hps3 hLr3 hb3 fin
        gi_wp2
        gi_region_with_o (refine ⟨trivial, ?_⟩; gi_at_call 51; refine FB.out.mono ?_; rintro e w4 ⟨v4, rfl, hown4, hg4, _⟩)
        all_goals
          have hfin := FN.out v4 w4 hown4 hg4
          clear hown4 hg4
          go_simp
          gi_wp2
          go_roundw
          case rel => exact ⟨_, hfin⟩
          case measure =>
            refine Nat.lt_of_le_of_lt (least_of hfin).2 (Nat.lt_of_lt_of_le ?_ (Nat.le_of_eq (HQ.out ▸ HM.out)))
            rw [Fo.size_app]
            simp only [Fo.size]
            omega
      · gi_wp2
        refine bodyPost_ret (results_none rfl _ _ _) rfl ?_
        exact ⟨⟨_, rfl⟩, .inr ⟨_, ⟨by simp, _, by rw [List.append_assoc, ← HP.out]; rfl⟩, hJx3⟩⟩
/-- types.all: the list is boxed, the function that comes has the box. -/
theorem all_seqG (n : Nat) (hn : 1 ≤ n) (Bs B : Nat) (vl : Value) (f : Fo) (hf : f.size ≤ 1000000) (w : World) (hB : B ≤ w.heap.size) (hBs : Boxed w Bs 22 vl) (hR : RdX w.heap.size w vl f.top) (hL : TyL B w f) :
    SeqG n Try.prog 50 #[.pointer (some ⟨Bs, 0, none⟩)] 24 (fun x : Tr => #[trV x]) (KpC B) (fun ys => ys = f.pre) (fun pre => pre ≠ [] ∧ ∃ s, pre ++ s = f.pre) (fun pre x => ∃ s, pre ++ x :: s = f.pre) w := by
  intro l J Jx W hW hJ _ hY h0
  exact all1G n hn l Bs B vl f hf J Jx W (Nat.le_trans hB hW.size) hJ hY ((hW.block Bs hBs.lt).trans hBs) ((hR.below hW).mono hW.size) (hL.below (hW.mono hB)) h0
end Go.Proofs.Ytfoangiphbmipaa
/- The answer's In. -/
namespace Go.Proofs.Ytfoangiphbmipaa
open Go.RowKit

end Go.Proofs.Ytfoangiphbmipaa
/- Variables: the plain facts; an append of numbers; the answer's Vars. -/
namespace Go.Proofs.Ytfoangiphbmipaa
open Go.RowKit Go.Shelf
attribute [local go_sem ↓] builtin_app
theorem intInfo : (Try.prog.info? 3).map (fun i => (i.zero, i.size, i.bytes)) = some (some (.int .i64 0), 1, 8) := by kernel_rfl
def ints (L : List Int) : List Value := L.map (Value.int .i64)
theorem ints_len (L : List Int) : (ints L).length = L.length := by simp [ints]
theorem ints_app (a b : List Int) : ints (a ++ b) = ints a ++ ints b := by simp [ints]
theorem ints_one (L : List Int) : ∀ u ∈ ints L, u.oneCell' = true := by
  intro u hu
  obtain ⟨x, _, rfl⟩ := List.mem_map.1 hu
  rfl
/-- An append of numbers. -/
theorem app_int (W : World) (base : Nat) (v : Value) (L : List Int) (own : W.ownsRow base 3 1 v L.length (ints L)) (vx : Value) (L2 : List Int) (rd : Rd W 1 vx L2.length (ints L2)) (hl : L.length + L2.length ≤ 100000000) (hbase : base ≤ W.heap.size) :
    ∃ v' W', (app_ #[62, 62] 62 #[v, vx]).run Try.prog W = .ok v' W' ∧ W'.ownsRow base 3 1 v' (L ++ L2).length (ints (L ++ L2)) ∧ Below base W W' ∧ KeepT 24 W W' ∧ W.grownBy W' v.ownBlock ∧ (v'.ownBlock = v.ownBlock ∨ v'.ownBlock = some W.heap.size) := by
  obtain ⟨i0, hi0, hz0, hz1, hz2⟩ := info_parts intInfo
  obtain ⟨v1, w1, hrun, hown, hg, hat⟩ := run_append_rd (P := Try.prog) W base 62 62 3 i0 _ 1 8 Try.underlying62 hi0 hz0 hz1 hz2 rfl (by omega) v _ _ own vx _ _ rd (ints_one _) (by unfold maxLen; omega) (by omega) hbase
  refine ⟨v1, w1, hrun, ?_, (Below.refl _ _).grown hg hbase (fun k e => (own.lt k e).1), KeepT.grown hg (row_not own (by decide)), hg, hat⟩
  rw [List.length_append, ints_app]
  exact hown
/-- One type's variable, behind others. -/
def addV (l : List Int) (x : Tr) : List Int := if x.1 = 1 ∧ ¬ x.2.1 ∈ l then l ++ [x.2.1] else l
def varsL (l : List Int) (L : List Tr) : List Int := L.foldl addV l
theorem varsL_len (L : List Tr) (l : List Int) : (varsL l L).length ≤ l.length + L.length := by
  induction L generalizing l with
  | nil => simp [varsL]
  | cons x r ih =>
    have h := ih (addV l x)
    have h2 : (addV l x).length ≤ l.length + 1 := by unfold addV; split <;> simp
    simp only [varsL, List.foldl_cons, List.length_cons] at h ⊢
    omega
theorem varsL_app (l : List Int) (a b : List Tr) : varsL l (a ++ b) = varsL (varsL l a) b := by simp [varsL]
/-- A list of numbers, at a value. -/
def IsInts (L : List Int) (w : World) (e : Ending) (w' : World) : Prop := ∃ v, e = .returned v ∧ Rd w' 1 v L.length (ints L) ∧ Below w.heap.size w w'
theorem Rd.form {w : World} {size : Nat} {v : Value} {n : Nat} {xs : List Value} (h : Rd w size v n xs) : ∃ A c, v = .slice A n c := by
  rcases h.2 with ⟨h0, A, c, h⟩ | ⟨b, off, cap, h, _⟩
  · exact ⟨A, c, by rw [h, h0]⟩
  · exact ⟨_, cap, h⟩
end Go.Proofs.Ytfoangiphbmipaa
