/- Texts of one proof, one behind the other. -/
import Derived.Test.YtfoangiphbmipaaMgTermOrder2
import Derived.RangeFuncNested
import Derived.RangeFuncBound
import Derived.RangeFuncCalls
import Derived.RangeFuncLeaves
import Derived.RangeFuncBox
import Derived.Shelf.Abstract
import Derived.Shelf.RegionOpen
import Derived.OwnWalkIn
import Derived.TacticsInMore
import Derived.LoopNIn
import Derived.LoopIn
import Derived.Outline
/- slices.Backward at types, and types.backwards: a list with types behind it, the last of them first. -/
namespace Go.Proofs.Ytfoangiphbmipaa
open Go.RowKit Go.Shelf
attribute [local go_sem] Oper.semAt_some

/-- A type's three cells, as they are. -/
abbrev Tr := Int × Int × Sl
def trC (x : Tr) : List Value := [.int .i64 x.1, .int .i64 x.2.1, slv x.2.2]
def trV (x : Tr) : Value := .agg #[.int .i64 x.1, .int .i64 x.2.1, slv x.2.2]
/-- A slice value that reads as these, below block B. -/
def RdX (B : Nat) (w : World) (v : Value) (L : List Tr) : Prop :=
  ∃ A c, v = .slice A L.length c ∧ (0 < L.length → ∃ b off, A = some ⟨b, off, none⟩ ∧ b < B ∧ ∀ i (h : i < L.length), w.cell? ⟨b, off + i * 3, none⟩ = some (.int .i64 L[i].1) ∧ w.cell? ⟨b, off + i * 3 + 1, none⟩ = some (.int .i64 L[i].2.1) ∧ w.cell? ⟨b, off + i * 3 + 2, none⟩ = some (slv L[i].2.2))
theorem RdX.below {B : Nat} {w w' : World} {v : Value} {L : List Tr} (h : RdX B w v L) (hb : Below B w w') : RdX B w' v L := by
  obtain ⟨A, c, hv, h⟩ := h
  refine ⟨A, c, hv, fun hn => ?_⟩
  obtain ⟨b, off, hA, hlt, hc⟩ := h hn
  exact ⟨b, off, hA, hlt, fun i hi => ⟨(hb.cell (p := ⟨_, _, none⟩) hlt).trans (hc i hi).1, (hb.cell (p := ⟨_, _, none⟩) hlt).trans (hc i hi).2.1, (hb.cell (p := ⟨_, _, none⟩) hlt).trans (hc i hi).2.2⟩⟩
/-- What a round keeps: whatever lay below B, and one block of cells beside. -/
structure KpB (B Bs : Nat) (W W' : World) : Prop where
  below : Below B W W'
  kept : ∀ o, W.heap[Bs]? = some o → o.isCells = true → W'.heap[Bs]? = some o
theorem KpB.t {B Bs : Nat} {X Y Z : World} (h : KpB B Bs X Y) (k : KpB B Bs Y Z) : KpB B Bs X Z := ⟨h.below.trans k.below, fun o ho hc => k.kept o (h.kept o ho hc) hc⟩
theorem KpB.b {B Bs : Nat} {w : World} (hn : B ≤ w.heap.size) (W : World) (l : Nat) (o o' : Obj) (hl : w.heap.size ≤ l) (h : W.heap[l]? = some o) (h1 : o.isCells = false) (h2 : o.isWalk = false) : KpB B Bs W (W.putObj l o') := by
  refine ⟨belowK_b hn W l o o' hl h h1 h2, fun o2 ho hc => ?_⟩
  have hne : Bs ≠ l := by
    rintro rfl
    rw [h] at ho
    injection ho with ho
    subst ho
    rw [h1] at hc; cases hc
  exact ((grownBy_putObj' W l o').block Bs (Array.getElem?_eq_some_iff.1 ho).1 (fun e => hne (by cases e; rfl))).trans ho
theorem KpB.boxed {B Bs : Nat} {W W' : World} {t : TypeId} {v : Value} (h : KpB B Bs W W') (hb : Boxed W Bs t v) : Boxed W' Bs t v := h.kept _ hb rfl
set_option maxRecDepth 100000 in
set_option maxHeartbeats 2000000 in
/-- slices.Backward's closure: the last first, each with its place. -/
theorem back1 (n : Nat) (hn : 1 ≤ n) (l Bs B : Nat) (A : Option Addr) (c : Nat) (L : List Tr) (hL : L.length ≤ 1000000) (J Jx : List (Int × Tr) → World → Prop)
    (hY : ∀ pre x W, J pre W → pre.length < L.length → YieldAt Fence.wide (n - 1) Try.prog l #[.int .i64 x.1, trV x.2] W fun e W' =>
      (e = .returned (.bool true) ∧ J (pre ++ [x]) W' ∧ KpB B Bs W W') ∨ (e = .returned (.bool false) ∧ Jx (pre ++ [x]) W'))
    (W : World) (hBs : Boxed W Bs 22 (.slice A L.length c)) (hR : RdX B W (.slice A L.length c) L) (h0 : J [] W) :
    CallsIn Fence.wide n Try.prog 54 #[.func (.yield l) #[] #[], .pointer (some ⟨Bs, 0, none⟩)] W fun e W' => (∃ v, e = .returned v) ∧
      ((∃ ys : List (Int × Tr), ys.map (·.2) = L.reverse ∧ J ys W') ∨ (∃ pre, Jx pre W')) := by
  refine callsIn_of_wp Try.func54 rfl trivial ?_ rfl
  simp only [Try.ntmps54, List.size_toArray, List.length_cons, List.length_nil, Nat.reduceAdd, Nat.reduceSub, Array.replicate_succ, Array.replicate_zero, List.push_toArray, List.append_toArray, List.nil_append, List.cons_append]
  have e00 : W.cell? ⟨Bs, 0, none⟩ = some (.slice A L.length c) := hBs.cell
  have HBS := Lib.hid hBs
  clear hBs
  gi_wp2
  gi_loopw [3] (fun i wr => ∃ (k : Nat) (z : Int) (pre : List (Int × Tr)), k ≤ L.length ∧ i = .int .i64 z ∧ z + 1 = k ∧ pre.map (·.2) = (L.drop k).reverse ∧ J pre wr ∧ Below B W wr ∧ Boxed wr Bs 22 (.slice A L.length c))
    (fun i _ => (intOf i + 1).toNat)
  case atStart => exact ⟨L.length, _, [], Nat.le_refl _, rfl, by omega, by simp, h0, Below.refl _ _, HBS.out⟩
  case round =>
    obtain ⟨k, z, pre, hk, rfl, hz, hpre, hJs, hnx, hbx⟩ := hrel
    have e0 : wr.cell? ⟨Bs, 0, none⟩ = some (.slice A L.length c) := hbx.cell
    have HBX := Lib.hid hbx
    clear hbx
    by_cases hk0 : 1 ≤ k
    · obtain ⟨A', c', hv, hf⟩ := hR.below hnx
      injection hv with hv1 _ hv3
      subst hv1; subst hv3
      obtain ⟨b, off, rfl, hlt, hc⟩ := hf (by omega)
      obtain ⟨c0, c1, c2⟩ := hc (k - 1) (by omega)
      have hdrop : L.drop (k - 1) = L[k - 1] :: L.drop k := by
        have := List.drop_eq_getElem_cons (l := L) (i := k - 1) (by omega)
        rwa [show k - 1 + 1 = k by omega] at this
      have hpl : pre.length < L.length := by
        have : (pre.map (·.2)).length = pre.length := by simp
        rw [hpre] at this
        simp at this
        omega
      obtain ⟨x, hx⟩ : ∃ x, L[k - 1] = x := ⟨_, rfl⟩
      rw [hx] at c0 c1 c2 hdrop
      obtain ⟨x1, x2, x3⟩ := x
      dsimp only [slv] at c2
      obtain ⟨fn, tmps, assign, body, hy, hR2⟩ := hY pre (z, x1, x2, x3) wr hJs hpl
      dsimp only [trV, slv] at hy
      have f1 : (0 : Int) ≤ z := by omega
      have f2 : z < (L.length : Int) := by omega
      have f3 : z.toNat = k - 1 := by omega
      have f4 : decide ((0 : Int) ≤ z) = true := decide_eq_true f1
      have HZ := Lib.hid hz
      have HP := Lib.hid hpre
      have HD := Lib.hid hdrop
      clear hz hpre hdrop hx hc hf hpl
      gi_wp2
      refine hR2.mono ?_
      rintro e W3 (⟨rfl, hJ3, hk3⟩ | ⟨rfl, hJx3⟩)
      · gi_wp2
        go_roundw
        case rel => exact ⟨k - 1, z - 1, pre ++ [(z, x1, x2, x3)], by omega, by go_num, by have := HZ.out; omega, by simp [HP.out, HD.out], hJ3, hnx.trans hk3.below, hk3.boxed HBX.out⟩
        case measure => simp [intOf]; omega
      · gi_wp2
        refine bodyPost_ret (results_none rfl _ _ _) rfl ?_
        exact ⟨⟨_, rfl⟩, .inr ⟨_, hJx3⟩⟩
    · obtain rfl : k = 0 := by omega
      have f1 : ¬ (0 : Int) ≤ z := by omega
      have f4 : decide ((0 : Int) ≤ z) = false := decide_eq_false f1
      have HP := Lib.hid hpre
      clear hz hpre
      gi_wp2
      go_end0
      exact ⟨⟨_, rfl⟩, .inl ⟨pre, by simpa using HP.out, hJs⟩⟩
set_option maxHeartbeats 1000000 in
/-- slices.Backward at types: the slice is boxed, the function that comes has the box. -/
theorem back_make (A : Option Addr) (n c : Nat) (w : World) :
    Calls Try.prog 53 #[.slice A n c] w fun e w' => e = .returned (.func (.func 54) #[] #[.pointer (some ⟨w.heap.size, 0, none⟩)]) ∧ w' = w.alloc (.cells #[.slice A n c] 22) := by
  go_enter Try.func53, Try.ntmps53
  go_wp2
  go_ret
  exact ⟨rfl, rfl⟩
theorem back_stops (n : Nat) (hn : 1 ≤ n) (Bs B : Nat) (A : Option Addr) (c : Nat) (L : List Tr) (hL : L.length ≤ 1000000) (w : World) (hBw : B ≤ w.heap.size) (hBs : Boxed w Bs 22 (.slice A L.length c)) (hR : RdX B w (.slice A L.length c) L) :
    SeqStopsK Fence.wide n Try.prog 54 #[.pointer (some ⟨Bs, 0, none⟩)] (fun x : Int × Tr => #[Value.int .i64 x.1, trV x.2]) (KpB B Bs) (fun ys => ys.map (·.2) = L.reverse) (fun _ => True) L.length w := fun l J Jx W hW _ _ hY h0 => by
  have hbs : Boxed W Bs 22 (.slice A L.length c) := (hW.block Bs hBs.lt).trans hBs
  refine (back1 n hn l Bs B A c L hL J Jx hY W hbs (hR.below (hW.mono hBw)) h0).mono ?_
  rintro e W' ⟨he, ⟨ys, hy, hj⟩ | ⟨pre, hj⟩⟩
  · exact ⟨he, .inl ⟨ys, hy, hj⟩⟩
  · exact ⟨he, .inr ⟨pre, trivial, hj⟩⟩
end Go.Proofs.Ytfoangiphbmipaa
/- types.backwards: a list with types behind it, the last of them first. -/
namespace Go.Proofs.Ytfoangiphbmipaa
open Go.RowKit Go.Shelf
attribute [local go_sem] Oper.semAt_some

/-- An append, under a name of its own. -/
def app_ (ats : Array Go.TypeId) (ty : Go.TypeId) (args : Array Value) : Sem Value := Builtin.append_ ats ty args
theorem builtin_app (b : Builtin) (ats : Array Go.TypeId) (ty : Go.TypeId) (cs : Array Bool) (args : Array Value) (hb : b = .append) : builtin b ats ty cs args = (do pure (.value (← app_ ats ty args))) := by subst hb; rfl
attribute [local go_sem ↓] builtin_app
theorem tyInfo : (Try.prog.info? 24).map (fun i => (i.zero, i.size, i.bytes)) = some (some (.agg #[.int .i64 0, .int .i64 0, .slice none 0 0]), 3, 40) := by kernel_rfl
theorem own_shape {w : World} {base : Nat} {e : TypeId} {size : Nat} {v : Value} {n : Nat} {xs : List Value} (h : w.ownsRow base e size v n xs) (hn : 0 < n) : ∃ g c, v = .slice (some ⟨g, 0, none⟩) n c ∧ base ≤ g ∧ g < w.heap.size := by
  rcases h.2 with ⟨_, h0⟩ | ⟨g, cap, cur, rfl, hb, hg, _⟩
  · omega
  · exact ⟨g, cap, rfl, hb, (Array.getElem?_eq_some_iff.1 hg).1⟩
theorem own_form {w : World} {base : Nat} {e : TypeId} {size : Nat} {v : Value} {n : Nat} {xs : List Value} (h : w.ownsRow base e size v n xs) : ∃ A c, v = .slice A n c ∧ n ≤ c ∧ c ≤ maxLen := by
  rcases h.2 with ⟨rfl, rfl⟩ | ⟨g, cap, cur, rfl, hb, hg, hnc, hcm, _⟩
  · exact ⟨_, _, rfl, Nat.le_refl _, by unfold maxLen; omega⟩
  · exact ⟨_, _, rfl, hnc, hcm⟩
/-- What has come so far lies behind what was there. -/
def BwInv (w : World) (base : Nat) (vT vL : Value) (T : List Value) (m : Nat) (pre : List (Int × Tr)) (W : World) : Prop :=
  (∃ v, Boxed W w.heap.size 22 v ∧ W.ownsRow base 24 3 v (m + pre.length) (T ++ pre.flatMap fun x => trC x.2) ∧ (v.ownBlock = vT.ownBlock ∨ ∀ k, v.ownBlock = some k → w.heap.size ≤ k)) ∧
    Boxed W (w.heap.size + 1) 22 vL ∧ w.grownBy W vT.ownBlock
theorem BwInv.own {w : World} {base : Nat} {vT vL : Value} {T : List Value} {m : Nat} (B : Nat) (hB : w.heap.size ≤ B) : OwnFrom B (BwInv w base vT vL T m) := by
  refine OwnFrom.and (Own.from (holdsRow_own base w.heap.size _ _ 3 (fun pre : List (Int × Tr) => m + pre.length) (fun pre => T ++ pre.flatMap fun x => trC x.2) (fun _ v => v.ownBlock = vT.ownBlock ∨ ∀ k, v.ownBlock = some k → w.heap.size ≤ k)) B) (OwnFrom.and (Own.from (boxed_own _ _ (fun _ => vL)) B) ?_)
  intro s W W' row hs hg hr
  refine ⟨hg.os.trans hs.os, hg.tape.trans hs.tape, hg.output.trans hs.output, Nat.le_trans hs.size hg.size, fun k hk hne => ?_⟩
  rw [hg.block k (by have := hs.size; omega) (fun e => by have := (hr k e.symm).1; omega)]
  exact hs.block k hk hne
theorem elem_set (w1 : World) (base g cp k : Nat) (xs : List Value) (hx : xs.length = k * 3) (z0 z1 z2 a b u : Value)
    (h : w1.ownsRow base 24 3 (.slice (some ⟨g, 0, none⟩) (k + 1) cp) (k + 1) (xs ++ [z0, z1, z2])) :
    (((w1.setCell ⟨g, k * 3, none⟩ a).setCell ⟨g, k * 3 + 1, none⟩ b).setCell ⟨g, k * 3 + 2, none⟩ u).ownsRow base 24 3 (.slice (some ⟨g, 0, none⟩) (k + 1) cp) (k + 1) (xs ++ [a, b, u]) ∧
      w1.grownBy (((w1.setCell ⟨g, k * 3, none⟩ a).setCell ⟨g, k * 3 + 1, none⟩ b).setCell ⟨g, k * 3 + 2, none⟩ u) (some g) := by
  obtain ⟨o1, g1⟩ := h.stored (k * 3) a
  obtain ⟨o2, g2⟩ := o1.stored (k * 3 + 1) b
  obtain ⟨o3, g3⟩ := o2.stored (k * 3 + 2) u
  refine ⟨?_, (g1.trans g2).trans g3⟩
  have e : (((xs ++ [z0, z1, z2]).set (k * 3) a).set (k * 3 + 1) b).set (k * 3 + 2) u = xs ++ [a, b, u] := by
    rw [← hx]
    simp
  rw [e] at o3
  exact o3
/-- What a round does, put together. -/
theorem bw_fin (w W W' : World) (base B g cp k m B0 : Nat) (T : List Value) (Av : Option Addr) (cv : Nat) (vT vL : Value) (pre : List (Int × Tr)) (x : Int × Tr) (hk : m + pre.length = k) (hB : B ≤ base) (hbw : base ≤ w.heap.size) (hB0 : w.heap.size < B0)
    (hown : W.ownsRow base 24 3 (.slice Av k cv) k (T ++ pre.flatMap fun x => trC x.2)) (_bv : Boxed W w.heap.size 22 (.slice Av k cv)) (bl : Boxed W (w.heap.size + 1) 22 vL) (hg : w.grownBy W vT.ownBlock)
    (hrow : (Value.slice Av k cv).ownBlock = vT.ownBlock ∨ ∀ j, (Value.slice Av k cv).ownBlock = some j → w.heap.size ≤ j)
    (hat : (Value.slice (some ⟨g, 0, none⟩) (k + 1) cp).ownBlock = (Value.slice Av k cv).ownBlock ∨ W.heap.size ≤ g)
    (hown' : W'.ownsRow base 24 3 (.slice (some ⟨g, 0, none⟩) (k + 1) cp) (k + 1) ((T ++ pre.flatMap fun x => trC x.2) ++ trC x.2)) (hbox : Boxed W' w.heap.size 22 (.slice (some ⟨g, 0, none⟩) (k + 1) cp))
    (hos : W'.os = W.os) (htp : W'.tape = W.tape) (hout : W'.output = W.output) (hsz : W.heap.size ≤ W'.heap.size)
    (hWW : ∀ j, j < W.heap.size → some j ≠ (Value.slice Av k cv).ownBlock → j ≠ w.heap.size → W'.heap[j]? = W.heap[j]?) :
    KeepsFrom B0 W W' ∧ KpB B (w.heap.size + 1) W W' ∧ BwInv w base vT vL T m (pre ++ [x]) W' := by
  have hrb : ∀ j, (Value.slice Av k cv).ownBlock = some j → base ≤ j := fun j h => (hown.lt j h).1
  have hbl' : Boxed W' (w.heap.size + 1) 22 vL := (hWW _ bl.lt (bl.not_row (by decide) hown) (by omega)).trans bl
  refine ⟨⟨hsz, fun j o hj ho hc => ?_⟩, ⟨⟨hos, htp, hout, hsz, fun j hj => ?_⟩, fun o ho hc => ?_⟩, ⟨⟨.slice (some ⟨g, 0, none⟩) (k + 1) cp, hbox, ?_, ?_⟩, hbl', ⟨hos.trans hg.os, htp.trans hg.tape, hout.trans hg.output, Nat.le_trans hg.size hsz, fun j hj hne => ?_⟩⟩⟩
  · refine (hWW j (Array.getElem?_eq_some_iff.1 ho).1 (fun e => ?_) (by omega)).trans ho
    rcases hown.2 with ⟨h1, _⟩ | ⟨g', cap, cur, h1, _, h2, _⟩
    · rw [h1] at e; cases e
    · rw [h1] at e
      obtain rfl : j = g' := by simpa [Value.ownBlock] using e
      rw [h2] at ho; cases ho; cases hc
  · refine hWW j (by have := hg.size; omega) (fun e => ?_) (by omega)
    have := hrb j e.symm
    omega
  · rw [show W.heap[w.heap.size + 1]? = _ from bl] at ho
    rw [← ho]; exact hbl'
  · have e : m + (pre ++ [x]).length = k + 1 := by simp; omega
    have e2 : (T ++ (pre ++ [x]).flatMap fun x => trC x.2) = (T ++ pre.flatMap fun x => trC x.2) ++ trC x.2 := by simp
    rw [e, e2]; exact hown'
  · rcases hat with h | h
    · rcases hrow with h2 | h2
      · exact .inl (h.trans h2)
      · exact .inr fun j hj => h2 j (h.symm.trans hj)
    · refine .inr fun j hj => ?_
      obtain rfl : g = j := by simpa [Value.ownBlock] using hj
      have := hg.size; omega
  · refine (hWW j (by have := hg.size; omega) (fun e => ?_) (by omega)).trans (hg.block j hj hne)
    rcases hrow with h2 | h2
    · exact hne (e.trans h2)
    · have := h2 j e.symm; omega
set_option maxRecDepth 100000 in
set_option maxHeartbeats 4000000 in
theorem backs_any (w : World) (base B : Nat) (vT vL : Value) (T : List Value) (m : Nat) (L : List Tr) (hown : w.ownsRow base 24 3 vT m T) (hB : B ≤ base) (hbase : base ≤ w.heap.size) (hR : RdX B w vL L) (hl : L.length ≤ 1000000) (hm : m ≤ 1000000) :
    Calls Try.prog 51 #[vT, vL] w fun e w' => ∃ v', e = .returned v' ∧ w'.ownsRow base 24 3 v' (m + L.length) (T ++ L.reverse.flatMap trC) ∧ w.grownBy w' vT.ownBlock ∧ (v'.ownBlock = vT.ownBlock ∨ ∀ k, v'.ownBlock = some k → w.heap.size ≤ k) := by
  obtain ⟨A, c, rfl, hRf⟩ := hR
  obtain ⟨A0, c0, rfl, _, _⟩ := own_form hown
  have H := Lib.hid hown
  refine (callsIn_wide (n := 3)).1 ?_
  refine callsIn_of_wp_marks Try.func51 rfl trivial ?_ rfl
  simp only [Try.ntmps51, List.size_toArray, List.length_cons, List.length_nil, Nat.reduceAdd, Nat.reduceSub, Array.replicate_succ, Array.replicate_zero, List.push_toArray, List.append_toArray, List.nil_append, List.cons_append]
  clear hown
  gi_wp2_with (refine ⟨trivial, ?_⟩; gi_at_call 53; refine (callsIn_wide.2 (back_make A L.length c _)).mono ?_; rintro e w' ⟨rfl, rfl⟩)

  have bT := Boxed.new w 22 (.slice A0 m c0)
  have bL := Boxed.new (w.alloc (.cells #[.slice A0 m c0] 22)) 22 (.slice A L.length c)
  rw [World.size_alloc] at bL
  obtain ⟨w0, hw0⟩ : ∃ w0, (w.alloc (.cells #[.slice A0 m c0] 22)).alloc (.cells #[.slice A L.length c] 22) = w0 := ⟨_, rfl⟩
  have hB0 : Below w.heap.size w w0 := by rw [← hw0]; exact ((Below.refl _ w).alloc (Nat.le_refl _) _).alloc (by simp) _
  have hs0 : w0.heap.size = w.heap.size + 2 := by rw [← hw0]; simp
  have hs2 : w.heap.size + 2 ≤ w0.heap.size := by omega
  have bT0 : Boxed w0 w.heap.size 22 (.slice A0 m c0) := by rw [← hw0]; exact bT.alloc _
  have bL0 : Boxed w0 (w.heap.size + 1) 22 (.slice A L.length c) := by rw [← hw0]; exact bL
  have own0 : w0.ownsRow base 24 3 (.slice A0 m c0) m T := by rw [← hw0]; exact (H.out.alloc _).alloc _
  have hR0 : RdX B w0 (.slice A L.length c) L := RdX.below (B := B) (w := w) ⟨A, c, rfl, hRf⟩ (hB0.mono (by omega))
  rw [hw0]
  clear hw0 bT bL
  refine wpIn_rangeFunc_ownH rfl (by omega) (gf := 54) (lb := #[.pointer (some ⟨w.heap.size + 1, 0, none⟩)]) rfl trivial (enters_of Try.func54 (by kernel_rfl) rfl)
    (back_stops 2 (by omega) (w.heap.size + 1) B A c L hl w0 (by omega) bL0 hR0) KpB.t (KpB.b (by omega)) (Below.refl _ _) (fun _ => rfl)
    (BwInv w base (.slice A0 m c0) (.slice A L.length c) T m) (fun _ _ _ => False)
    (BwInv.own _ (by omega)) (fun _ _ _ _ _ hs _ _ => hs)
    ⟨⟨.slice A0 m c0, bT0, by simpa using own0, .inl rfl⟩, bL0, ⟨hB0.os, hB0.tape, hB0.output, hB0.size, fun k hk _ => hB0.block k hk⟩⟩
    (fun x a' W => ∃ Bx, (W.cell? ⟨Bx, 0, none⟩ = some (.int .i64 x.2.1) ∧ W.cell? ⟨Bx, 1, none⟩ = some (.int .i64 x.2.2.1) ∧ W.cell? ⟨Bx, 2, none⟩ = some (slv x.2.2.2)) ∧ a' = { tmps := #[.slice A0 m c0, .slice A L.length c, .pointer (some ⟨w.heap.size, 0, none⟩), undef, .slice none 0 0, undef, .pointer (some ⟨Bx, 0, none⟩), .slice A L.length c, .func (.func 54) #[] #[.pointer (some ⟨w.heap.size + 1, 0, none⟩)], .int .i64 x.1, trV x.2, undef, undef, undef, undef, undef, undef, undef], defers := [] })
    (fun x a' s W W' row hs hg hr => by
      obtain ⟨Bx, ⟨c0, c1, c2⟩, ha⟩ := hs
      exact ⟨Bx, ⟨cell_kept c0 hg (fun r e => (hr r e).2), cell_kept c1 hg (fun r e => (hr r e).2), cell_kept c2 hg (fun r e => (hr r e).2)⟩, ha⟩) ?assign ?body ?done ?stop
  case assign =>
    rintro l pre x W K hi hK
    obtain ⟨x0, x1, x2, A3, n3, c3⟩ := x
    dsimp only [trV, slv] at hK ⊢
    have HI := Lib.hid hi
    have hsz := hi.2.2.size
    clear hi
    gi_wp2
    exact hK _ _ ((KeepsOthers.alloc _ _).from _) ⟨(Below.refl B W).alloc (by omega) _, fun o ho _ => (Below.heap_alloc _ _ _ (Array.getElem?_eq_some_iff.1 ho).1).trans ho⟩ ((BwInv.own w0.heap.size (by omega)).alloc _ HI.out) ⟨W.heap.size, ⟨by go_simp, by go_simp, by go_simp⟩, rfl⟩
  case body =>
    rintro l pre x a' W hl ⟨r, hr⟩ hi ⟨Bx, ⟨x0, x1, x2⟩, rfl⟩ hlt
    obtain ⟨⟨v, bv, hown, hrow⟩, bl, hg⟩ := hi
    obtain ⟨y0, y1, y2, A3, n3, c3⟩ := x
    dsimp only [trV, slv] at x0 x1 x2 ⊢
    obtain ⟨Av, cv, rfl, hk1, hk2⟩ := own_form hown
    obtain ⟨i0, hi0, hz0, hz1, hz2⟩ := info_parts tyInfo
    obtain ⟨k, hk⟩ : ∃ k, m + pre.length = k := ⟨_, rfl⟩
    have hkb : k ≤ 2000000 := by omega
    rw [hk] at hown bv hrow hk1
    have hbs : base ≤ W.heap.size := by have := hg.size; omega
    obtain ⟨W1, hW1⟩ : ∃ W1, W1 = (W.alloc (.cells #[.int .i64 0, .int .i64 0, .slice none 0 0] 24)).drew := ⟨_, rfl⟩
    have own1 : W1.ownsRow base 24 3 (.slice Av k cv) k (T ++ pre.flatMap fun x => trC x.2) := by rw [hW1]; exact hown.alloc _
    have rd1 : Rd W1 3 (.slice (some ⟨W.heap.size, 0, none⟩) 1 1) 1 [.int .i64 0, .int .i64 0, .slice none 0 0] := by
      rw [hW1]; exact rd_new W [.int .i64 0, .int .i64 0, .slice none 0 0] 24 3 1 rfl (by unfold maxLen; omega)
    obtain ⟨v1, w1, hrun, hown1, hg1, hat⟩ := run_append_rd (P := Try.prog) W1 base 22 22 24 i0 _ 3 40 Try.underlying22 hi0 hz0 hz1 hz2 rfl (by omega) (.slice Av k cv) k _ own1 _ 1 _ rd1 (by simp [Value.oneCell']) (by unfold maxLen; omega) (by omega) (by rw [hW1]; simp; omega)
    obtain ⟨g, cp, rfl, hg0, hg2⟩ := own_shape hown1 (by omega)
    have hrun2 : (app_ #[22, 22] 22 #[.slice Av k cv, .slice (some ⟨W.heap.size, 0, none⟩) 1 1]).run Try.prog W1 = .ok (.slice (some ⟨g, 0, none⟩) (k + 1) cp) w1 := hrun
    rw [hW1] at hrun2
    have HW1 := Lib.hid hW1
    have z0 : w1.cell? ⟨g, k * 3, none⟩ = some (.int .i64 0) := by rw [hown1.cellAt _ (by omega), List.getElem?_append_right (by rw [own1.1]; omega), own1.1]; simp
    have z1 : w1.cell? ⟨g, k * 3 + 1, none⟩ = some (.int .i64 0) := by rw [hown1.cellAt _ (by omega), List.getElem?_append_right (by rw [own1.1]; omega), own1.1]; simp
    have z2 : w1.cell? ⟨g, k * 3 + 2, none⟩ = some (.slice none 0 0) := by rw [hown1.cellAt _ (by omega), List.getElem?_append_right (by rw [own1.1]; omega), own1.1]; simp
    have zf0 : w1.frozen? ⟨g, k * 3, none⟩ = false := hown1.frozenAt _
    have zf1 : w1.frozen? ⟨g, k * 3 + 1, none⟩ = false := hown1.frozenAt _
    have zf2 : w1.frozen? ⟨g, k * 3 + 2, none⟩ = false := hown1.frozenAt _
    have bv1 : Boxed w1 w.heap.size 22 (.slice Av k cv) := by
      refine Boxed.kept (W := W1) (by rw [hW1]; exact bv.alloc _) hg1 (bv.not_row (by decide) hown)
    have bc := bv.cell
    have bf := bv.frozen
    have bc1 := bv1.cell
    have bf1 := bv1.frozen
    have hlb : w.heap.size < W.heap.size := bv.lt
    have hlx : Bx < W.heap.size := World.block_lt_of_cell? W ⟨Bx, 0, none⟩ x0
    have hgb : g ≠ w.heap.size := by
      rintro rfl
      exact bv1.not_row (by decide) hown1 (by simp [Value.ownBlock])
    have hkk : (0 : Int) ≤ (k : Int) := by omega
    have hkk1 : (k : Int) < (k : Int) + 1 := by omega
    have hk0 := Lib.hid hk
    have HOWN := Lib.hid hown
    have HBL := Lib.hid bl
    have HG := Lib.hid hg
    have HOWN1 := Lib.hid hown1
    have HG1 := Lib.hid hg1
    have HAT := Lib.hid hat
    have HRW := Lib.hid hrow
    have BV := Lib.hid bv
    have BV1 := Lib.hid bv1
    clear hrun hown1 hg1 hat own1 rd1 bv bv1 bl hg hown hrow hk hW1 hRf hR0 hB0 hs0 bT0 bL0 own0
    have hxl : (T ++ pre.flatMap fun x => trC x.2).length = k * 3 := HOWN.out.1
    have hWw : ∀ j, j < W.heap.size → some j ≠ (Value.slice Av k cv).ownBlock → w1.heap[j]? = W.heap[j]? := by
      intro j hj hne
      rw [HG1.out.block j (by rw [HW1.out]; simp; omega) hne, HW1.out]
      exact Below.heap_alloc _ _ _ hj
    have hszw : W.heap.size ≤ w1.heap.size := by have := HG1.out.size; rw [HW1.out] at this; simp at this; omega
    have hatW : (Value.slice (some ⟨g, 0, none⟩) (k + 1) cp).ownBlock = (Value.slice Av k cv).ownBlock ∨ W.heap.size ≤ g := by
      rcases HAT.out with h | h
      · exact .inl h
      · right
        have : g = W1.heap.size := by simpa [Value.ownBlock] using h
        rw [this, HW1.out]; simp
    have ho1 : w1.os = W.os := by rw [HG1.out.os, HW1.out]; rfl
    have ho2 : w1.tape = W.tape := by rw [HG1.out.tape, HW1.out]; rfl
    have ho3 : w1.output = W.output := by rw [HG1.out.output, HW1.out]; rfl
    have hgne : ∀ j, j < W.heap.size → some j ≠ (Value.slice Av k cv).ownBlock → j ≠ g := by
      rintro j hj hne rfl
      rcases hatW with h | h
      · exact hne (by rw [← h]; rfl)
      · omega
    have FA : Hid (ownPostG w0.heap.size (KpB B (w.heap.size + 1)) (BwInv w base (.slice A0 m c0) (.slice A L.length c) T m) (fun _ _ _ => False) (pre ++ [(y0, y1, y2, A3, n3, c3)]) W .normal ({ tmps := #[], defers := [] } : Act)
        ((((w1.setCell ⟨g, k * 3, none⟩ (.int .i64 y1)).setCell ⟨g, k * 3 + 1, none⟩ (.int .i64 y2)).setCell ⟨g, k * 3 + 2, none⟩ (.slice A3 n3 c3)).setCell ⟨w.heap.size, 0, none⟩ (.slice (some ⟨g, 0, none⟩) (k + 1) cp))) := Lib.hid (by
      obtain ⟨e1, e2⟩ := elem_set w1 base g cp k _ hxl _ _ _ (.int .i64 y1) (.int .i64 y2) (.slice A3 n3 c3) HOWN1.out
      have e3 := grownBy_setCell' (((w1.setCell ⟨g, k * 3, none⟩ (.int .i64 y1)).setCell ⟨g, k * 3 + 1, none⟩ (.int .i64 y2)).setCell ⟨g, k * 3 + 2, none⟩ (.slice A3 n3 c3)) w.heap.size (.slice (some ⟨g, 0, none⟩) (k + 1) cp)
      refine bw_fin w W _ base B g cp k m _ T Av cv _ _ pre (y0, y1, y2, A3, n3, c3) hk0.out hB hbase (by omega) HOWN.out BV.out HBL.out HG.out HRW.out hatW (e1.kept e3 (.inr (by simp [Value.ownBlock]; exact hgb))) ?_ (e3.os.trans (e2.os.trans ho1)) (e3.tape.trans (e2.tape.trans ho2)) (e3.output.trans (e2.output.trans ho3)) (Nat.le_trans hszw (Nat.le_trans e2.size e3.size)) ?_
      · exact ((BV1.out.kept e2 (by simp; omega)).set _)
      · intro j hj hne hnb
        rw [e3.block j (by have := e2.size; omega) (by simp; exact hnb), e2.block j (by omega) (by simp; exact hgne j hj hne)]
        exact hWw j hj hne)
    have FB : Hid (ownPostG w0.heap.size (KpB B (w.heap.size + 1)) (BwInv w base (.slice A0 m c0) (.slice A L.length c) T m) (fun _ _ _ => False) (pre ++ [(y0, y1, y2, A3, n3, c3)]) W .normal ({ tmps := #[], defers := [] } : Act)
        ((((w1.setCell ⟨w.heap.size, 0, none⟩ (.slice (some ⟨g, 0, none⟩) (k + 1) cp)).setCell ⟨g, k * 3, none⟩ (.int .i64 y1)).setCell ⟨g, k * 3 + 1, none⟩ (.int .i64 y2)).setCell ⟨g, k * 3 + 2, none⟩ (.slice A3 n3 c3))) := Lib.hid (by
      have e3 := grownBy_setCell' w1 w.heap.size (.slice (some ⟨g, 0, none⟩) (k + 1) cp)
      obtain ⟨e1, e2⟩ := elem_set (w1.setCell ⟨w.heap.size, 0, none⟩ (.slice (some ⟨g, 0, none⟩) (k + 1) cp)) base g cp k _ hxl _ _ _ (.int .i64 y1) (.int .i64 y2) (.slice A3 n3 c3) (HOWN1.out.kept e3 (.inr (by simp [Value.ownBlock]; exact hgb)))
      refine bw_fin w W _ base B g cp k m _ T Av cv _ _ pre (y0, y1, y2, A3, n3, c3) hk0.out hB hbase (by omega) HOWN.out BV.out HBL.out HG.out HRW.out hatW e1 ?_ (e2.os.trans (e3.os.trans ho1)) (e2.tape.trans (e3.tape.trans ho2)) (e2.output.trans (e3.output.trans ho3)) (Nat.le_trans hszw (Nat.le_trans e3.size e2.size)) ?_
      · exact ((BV1.out.set _).kept e2 (by simp; omega))
      · intro j hj hne hnb
        rw [e2.block j (by have := e3.size; omega) (by simp; exact hgne j hj hne), e3.block j (by omega) (by simp; exact hnb)]
        exact hWw j hj hne)
    clear hxl hWw hszw hatW ho1 ho2 ho3 hgne
    have hmix : Try.prog.follows Departure.mixedOrders = true := by kernel_rfl
    gi_wp2
    gi_region_with_o (fail)
    all_goals gi_wp2
    all_goals
      first
        | exact FA.out
        | exact FB.out
  case done =>
    rintro D ys W hD hys ⟨⟨v, bv, hown, hrow⟩, bl, hg⟩ hK
    have hlen : ys.length = L.length := by
      have : (ys.map (·.2)).length = L.reverse.length := by rw [hys]
      simpa using this
    have hfl : (ys.flatMap fun x => trC x.2) = L.reverse.flatMap trC := by
      rw [← hys, List.flatMap_map]
    rw [hlen, hfl] at hown
    have bc := bv.cell
    have HOWN := Lib.hid hown
    have HROW := Lib.hid hrow
    have HG := Lib.hid hg
    clear hown hrow hg bv bl hlen hfl hys
    gi_wp2
    refine ⟨by simp, .inl ⟨_, _, rfl, run_takeDeferred hK, ?_⟩⟩
    have hgp := grownBy_putObj' W D (.deferred none)
    refine ⟨_, results_tmp rfl _ _ _, v, rfl, ownsRow_putObj HOWN.out _ hK rfl, ⟨hgp.os.trans HG.out.os, hgp.tape.trans HG.out.tape, hgp.output.trans HG.out.output, Nat.le_trans HG.out.size hgp.size, fun j hj hne => ?_⟩, HROW.out⟩
    exact (hgp.block j (by have := HG.out.size; omega) (fun e => by injection e with e; omega)).trans (HG.out.block j hj hne)
  case stop =>
    rintro D c pre W _ _ h _
    exact h.elim
end Go.Proofs.Ytfoangiphbmipaa
