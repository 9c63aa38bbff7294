/- Texts of one proof, one behind the other. -/
import Derived.Test.YtifdbmdfkhnojaaDoorMgSubstApplies13
import Derived.Test.YtifdbmdfkhnojaaDoorMgSubstApplies2
import Derived.Test.YtifdbmdfkhnojaaDoorMgSubstApplies18
import Derived.Test.YtifdbmdfkhnojaaDoorMgSubstApplies17
import Derived.Deep.RegionWith
/- slices.Backward at binds: the last first, each with its place. -/
namespace Go.Proofs.YtifdbmdfkhnojaaDoor
open Go.RowKit Go.Shelf
attribute [local go_sem] Oper.semAt_some
/-- A bind whose variable is a number that an int may be. -/
abbrev BndW := {b : Bnd // (Lit.int .i64 b.1).wf = true}
theorem bndw (l : List Bnd) (h : BdW l) : ∃ L : List BndW, L.map (·.1) = l := by
  induction l with
  | nil => exact ⟨[], rfl⟩
  | cons b l ih =>
    obtain ⟨L, rfl⟩ := ih fun x hx => h x (List.mem_cons_of_mem _ hx)
    exact ⟨⟨b, (h b List.mem_cons_self).1⟩ :: L, rfl⟩
set_option maxRecDepth 100000 in
set_option maxHeartbeats 2000000 in
/-- slices.Backward's closure: the last first, each with its place. -/
theorem bback1 (n : Nat) (hn : 1 ≤ n) (l Bs B : Nat) (A : Option Addr) (c : Nat) (L : List BndW) (hL : L.length ≤ 1000000) (J Jx : List (Int × BndW) → World → Prop)
    (hY : ∀ pre x W, J pre W → pre.length < L.length → YieldAt Fence.wide (n - 1) Tryd.prog l #[.int .i64 x.1, bdV x.2.1] W fun e W' =>
      (e = .returned (.bool true) ∧ J (pre ++ [x]) W' ∧ KpB B Bs W W') ∨ (e = .returned (.bool false) ∧ Jx (pre ++ [x]) W'))
    (W : World) (hBs : Boxed W Bs 22 (.slice A L.length c)) (hR : BdV B W (L.map (·.1)) (.slice A L.length c)) (h0 : J [] W) :
    CallsIn Fence.wide n Tryd.prog 72 #[.func (.yield l) #[] #[], .pointer (some ⟨Bs, 0, none⟩)] W fun e W' => (∃ v, e = .returned v) ∧
      ((∃ ys : List (Int × BndW), ys.map (·.2) = L.reverse ∧ J ys W') ∨ (∃ pre, Jx pre W')) := by
  refine callsIn_of_wp Tryd.func72 rfl trivial ?_ rfl
  simp only [Tryd.ntmps72, List.size_toArray, List.length_cons, List.length_nil, Nat.reduceAdd, Nat.reduceSub, Array.replicate_succ, Array.replicate_zero, List.push_toArray, List.append_toArray, List.nil_append, List.cons_append]
  have e00 : W.cell? ⟨Bs, 0, none⟩ = some (.slice A L.length c) := hBs.cell
  have HBS := Lib.hid hBs
  clear hBs
  gi_wp2
  gi_loopw [3] (fun i wr => ∃ (k : Nat) (z : Int) (pre : List (Int × BndW)), k ≤ L.length ∧ i = .int .i64 z ∧ z + 1 = k ∧ pre.map (·.2) = (L.drop k).reverse ∧ J pre wr ∧ Below B W wr ∧ Boxed wr Bs 22 (.slice A L.length c))
    (fun i _ => (intOf i + 1).toNat)
  case atStart => exact ⟨L.length, _, [], Nat.le_refl _, rfl, by omega, by simp, h0, Below.refl _ _, HBS.out⟩
  case round =>
    obtain ⟨k, z, pre, hk, rfl, hz, hpre, hJs, hnx, hbx⟩ := hrel
    have e0 : wr.cell? ⟨Bs, 0, none⟩ = some (.slice A L.length c) := hbx.cell
    have HBX := Lib.hid hbx
    clear hbx
    by_cases hk0 : 1 ≤ k
    · obtain ⟨b, off, rfl, hlt, c0, c1, c2, c3⟩ := (hR.below hnx).at (k - 1) (by rw [List.length_map]; omega)
      simp only [List.getElem_map] at c0 c1 c2 c3
      have hdrop : L.drop (k - 1) = L[k - 1] :: L.drop k := by
        have := List.drop_eq_getElem_cons (l := L) (i := k - 1) (by omega)
        rwa [show k - 1 + 1 = k by omega] at this
      have hpl : pre.length + k = L.length := by
        have : (pre.map (·.2)).length = pre.length := by simp
        rw [hpre] at this
        simp at this
        omega
      obtain ⟨x, hx⟩ : ∃ x, L[k - 1] = x := ⟨_, rfl⟩
      rw [hx] at c0 c1 c2 c3 hdrop
      obtain ⟨⟨x1, x2, x3, x4, x5⟩, xw⟩ := x
      dsimp only [slv] at c0 c1 c2 c3
      obtain ⟨fn, tmps, assign, body, hy, hR2⟩ := hY pre (z, ⟨(x1, x2, x3, x4, x5), xw⟩) wr hJs (by omega)
      dsimp only [bdV, slv] at hy
      have f1 : (0 : Int) ≤ z := by omega
      have f2 : z < (L.length : Int) := by omega
      have f3 : z.toNat = k - 1 := by omega
      have f4 : decide ((0 : Int) ≤ z) = true := decide_eq_true f1
      have HZ := Lib.hid hz
      have HP := Lib.hid hpre
      have HD := Lib.hid hdrop
      clear hz hpre hdrop hx hpl
      gi_wp2
      refine hR2.mono ?_
      rintro e W3 (⟨rfl, hJ3, hk3⟩ | ⟨rfl, hJx3⟩)
      · gi_wp2
        go_roundw
        case rel => exact ⟨k - 1, z - 1, pre ++ [(z, ⟨(x1, x2, x3, x4, x5), xw⟩)], by omega, by go_num, by have := HZ.out; omega, by simp [HP.out, HD.out], hJ3, hnx.trans hk3.below, hk3.boxed HBX.out⟩
        case measure => simp [intOf]; omega
      · gi_wp2
        refine bodyPost_ret (results_none rfl _ _ _) rfl ?_
        exact ⟨⟨_, rfl⟩, .inr ⟨_, hJx3⟩⟩
    · obtain rfl : k = 0 := by omega
      have f1 : ¬ (0 : Int) ≤ z := by omega
      have f4 : decide ((0 : Int) ≤ z) = false := decide_eq_false f1
      have HP := Lib.hid hpre
      clear hz hpre
      gi_wp2
      go_end0
      exact ⟨⟨_, rfl⟩, .inl ⟨pre, by simpa using HP.out, hJs⟩⟩
set_option maxHeartbeats 1000000 in
/-- slices.Backward at binds: the slice is boxed, the function that comes has the box. -/
theorem bback_make (A : Option Addr) (n c : Nat) (w : World) :
    Calls Tryd.prog 58 #[.slice A n c] w fun e w' => e = .returned (.func (.func 72) #[] #[.pointer (some ⟨w.heap.size, 0, none⟩)]) ∧ w' = w.alloc (.cells #[.slice A n c] 22) := by
  go_enter Tryd.func58, Tryd.ntmps58
  go_wp2
  go_ret
  exact ⟨rfl, rfl⟩
theorem bback_stops (n : Nat) (hn : 1 ≤ n) (Bs B : Nat) (A : Option Addr) (c : Nat) (L : List BndW) (hL : L.length ≤ 1000000) (w : World) (hBw : B ≤ w.heap.size) (hBs : Boxed w Bs 22 (.slice A L.length c)) (hR : BdV B w (L.map (·.1)) (.slice A L.length c)) :
    SeqStopsK Fence.wide n Tryd.prog 72 #[.pointer (some ⟨Bs, 0, none⟩)] (fun x : Int × BndW => #[Value.int .i64 x.1, bdV x.2.1]) (KpB B Bs) (fun ys => ys.map (·.2) = L.reverse) (fun _ => True) L.length w := fun l J Jx W hW _ _ hY h0 => by
  have hbs : Boxed W Bs 22 (.slice A L.length c) := (hW.block Bs hBs.lt).trans hBs
  refine (bback1 n hn l Bs B A c L hL J Jx hY W hbs (hR.below (hW.mono hBw)) h0).mono ?_
  rintro e W' ⟨he, ⟨ys, hy, hj⟩ | ⟨pre, hj⟩⟩
  · exact ⟨he, .inl ⟨ys, hy, hj⟩⟩
  · exact ⟨he, .inr ⟨pre, trivial, hj⟩⟩
end Go.Proofs.YtifdbmdfkhnojaaDoor
/- subst.byVar. -/
namespace Go.Proofs.YtifdbmdfkhnojaaDoor
open Go.RowKit Go.Shelf Go.Maps Go.WideShapes
attribute [local go_sem] Oper.semAt_some
/-- The types of the binds that count, by their variables. -/
def mv (l : List Bnd) : Int → Option Value := fun v => (fnd l v).map bdT
theorem mv_cons (b : Bnd) (l : List Bnd) : mv (b :: l) = upd (mv l) b.1 (bdT b) := by
  funext m
  simp only [mv, fnd, upd]
  by_cases h : m = b.1
  · subst h; simp
  · simp [h, Ne.symm h]
theorem bindsTy : MapTy 56 25 (tyVal 0 0 (.slice none 0 0)) := ⟨Tryd.underlying56, fun w => by kernel_rfl⟩
/-- Between two rounds. -/
def ByInv (w : World) (b3 bm : Nat) (pre : List (Int × BndW)) (W : World) : Prop :=
  Boxed W b3 56 (.map (some bm)) ∧ MapF (mv (pre.map (·.2.1)).reverse) (cnt (pre.map (·.2.1)).reverse).length pre.length bm W ∧ Below w.heap.size w W
theorem ByInv.own {w : World} {b3 bm B : Nat} (hB : w.heap.size ≤ B) (hbm : bm < B) : OwnFrom B (ByInv w b3 bm) := by
  rintro pre W W' row ⟨h3, h4, h5⟩ hg hr
  have nb : ∀ {b : Nat} {t : TypeId} {u : Value}, Boxed W b t u → some b ≠ row := fun hb e => by
    obtain ⟨_, o, ho, hc⟩ := hr _ e.symm
    rw [show W.heap[_]? = _ from hb] at ho; cases ho; cases hc
  exact ⟨h3.kept hg (nb h3), h4.kept hg (fun e => by have := (hr _ e.symm).1; omega), h5.trans ((Below.refl _ _).grown hg h5.size (fun k e => by have := (hr k e).1; omega))⟩
set_option maxRecDepth 100000 in
set_option maxHeartbeats 2000000 in
theorem byvar_any (w : World) (B : Nat) (l : List Bnd) (v : Value) (hB : B ≤ w.heap.size) (hl : BdV B w l v) (hw : BdW l) (hs : l.length ≤ 100000) :
    Calls Tryd.prog 35 #[v] w fun e w' => ∃ bm, e = .returned (.map (some bm)) ∧ w.heap.size ≤ bm ∧ MapF (mv l) (cnt l).length l.length bm w' ∧ Below w.heap.size w w' := by
  obtain ⟨L, rfl⟩ := bndw l hw
  rw [List.length_map] at hs
  obtain ⟨A, c, rfl⟩ := hl.form
  rw [List.length_map] at hl ⊢
  refine (callsIn_wide (n := 4)).1 ?_
  refine callsIn_of_wp_marks Tryd.func35 rfl trivial ?_ rfl
  simp only [Tryd.ntmps35, List.size_toArray, List.length_cons, List.length_nil, Nat.reduceAdd, Nat.reduceSub, Array.replicate_succ, Array.replicate_zero, List.push_toArray, List.append_toArray, List.nil_append, List.cons_append]
  have hmm := @run_makeMap Tryd.prog
  gi_wp2_with (refine ⟨trivial, ?_⟩; gi_at_call 58; refine (callsIn_wide.2 (bback_make A L.length c _)).mono ?_; rintro e w' ⟨rfl, rfl⟩)
  obtain ⟨w4, hw4⟩ : ∃ w4, ((w.alloc (Obj.map #[] 0)).alloc (Obj.cells #[.map (some w.heap.size)] 56)).alloc (Obj.cells #[.slice A L.length c] 22) = w4 := ⟨_, rfl⟩
  have hs4 : w4.heap.size = w.heap.size + 3 := by rw [← hw4]; simp
  have hb4 : Below w.heap.size w w4 := by rw [← hw4]; exact (((Below.refl _ w).alloc (Nat.le_refl _) _).alloc (by simp) _).alloc (by simp only [World.size_alloc]; omega) _
  have k1 : MapF (fun _ => none) 0 0 w.heap.size w4 := by
    rw [← hw4]
    exact ((MapF.made w).kept (World.grownBy_alloc _ _ none) (by simp)).kept (World.grownBy_alloc _ _ none) (by simp)
  have k2 : Boxed w4 (w.heap.size + 1) 56 (.map (some w.heap.size)) := by
    rw [← hw4]
    refine (Below.heap_alloc _ _ _ (by simp only [World.size_alloc]; omega)).trans ?_
    have := heap_alloc_new (w.alloc (Obj.map #[] 0)) (Obj.cells #[.map (some w.heap.size)] 56)
    simp only [World.size_alloc] at this
    exact this
  have k3 : Boxed w4 (w.heap.size + 1 + 1) 22 (.slice A L.length c) := by
    rw [← hw4]
    have := heap_alloc_new ((w.alloc (Obj.map #[] 0)).alloc (Obj.cells #[.map (some w.heap.size)] 56)) (Obj.cells #[.slice A L.length c] 22)
    simp only [World.size_alloc] at this
    exact this
  have hR4 : BdV B w4 (L.map (·.1)) (.slice A L.length c) := hl.below (hb4.mono hB)
  have hinv : ByInv w (w.heap.size + 1) w.heap.size [] w4 := ⟨k2, k1, hb4⟩
  rw [hw4]
  clear hw4 hmm k1 k2
  refine wpIn_rangeFunc_ownH rfl (by omega) (gf := 72) (lb := #[.pointer (some ⟨w.heap.size + 1 + 1, 0, none⟩)]) rfl trivial (enters_of Tryd.func72 (by kernel_rfl) rfl)
    (bback_stops 3 (by omega) (w.heap.size + 1 + 1) B A c L (by omega) w4 (by omega) k3 hR4) KpB.t (KpB.b (by omega)) (Below.refl _ _) (fun _ => rfl)
    (ByInv w (w.heap.size + 1) w.heap.size) (fun _ _ _ => False)
    (ByInv.own (by omega) (by omega)) (fun _ _ _ _ _ hs _ _ => hs)
    hinv
    (fun x a' W => ∃ Bx, (W.cell? ⟨Bx, 0, none⟩ = some (.int .i64 x.2.1.1) ∧ W.cell? ⟨Bx, 1, none⟩ = some (.int .i64 x.2.1.2.1) ∧ W.cell? ⟨Bx, 2, none⟩ = some (.int .i64 x.2.1.2.2.1) ∧ W.cell? ⟨Bx, 3, none⟩ = some (slv x.2.1.2.2.2.1)) ∧ a' = { tmps := #[.slice A L.length c, undef, .map none, .pointer (some ⟨w.heap.size + 1, 0, none⟩), undef, .pointer (some ⟨Bx, 0, none⟩), .map (some w.heap.size), .slice A L.length c, .func (.func 72) #[] #[.pointer (some ⟨w.heap.size + 1 + 1, 0, none⟩)], .int .i64 x.1, bdV x.2.1, undef, undef, undef, undef, undef, undef], defers := [] })
    (fun x a' s W W' row hs hg hr => by
      obtain ⟨Bx, ⟨c0, c1, c2, c3⟩, ha⟩ := hs
      exact ⟨Bx, ⟨cell_kept c0 hg (fun r e => (hr r e).2), cell_kept c1 hg (fun r e => (hr r e).2), cell_kept c2 hg (fun r e => (hr r e).2), cell_kept c3 hg (fun r e => (hr r e).2)⟩, ha⟩) ?assign ?body ?done ?stop
  case assign =>
    rintro l pre x W K hi hK
    obtain ⟨x0, ⟨x1, x2, x3, ⟨A3, n3, c3⟩, x5⟩, xw⟩ := x
    dsimp only [bdV, slv] at hK ⊢
    have HI := Lib.hid hi
    have hsz := hi.2.2.size
    clear hi
    gi_wp2
    exact hK _ _ ((KeepsOthers.alloc _ _).from _) ⟨(Below.refl B W).alloc (by omega) _, fun o ho _ => (Below.heap_alloc _ _ _ (Array.getElem?_eq_some_iff.1 ho).1).trans ho⟩ ((ByInv.own (B := w4.heap.size) (by omega) (by omega)).alloc _ HI.out) ⟨W.heap.size, ⟨by go_simp, by go_simp, by go_simp, by go_simp⟩, rfl⟩
  case body =>
    rintro l pre x a' W hl ⟨r, hr⟩ hi ⟨Bx, ⟨x0, x1, x2, x3⟩, rfl⟩ hlt
    obtain ⟨y0, ⟨y1, y2, y3, ⟨A3, n3, c3⟩, y5⟩, yw⟩ := x
    dsimp only [bdV, slv] at x0 x1 x2 x3 yw ⊢
    obtain ⟨h3, h4, h5⟩ := hi
    obtain ⟨W1, run1, m1, g1, o1, s1⟩ := h4.put bindsTy (by omega) y1 yw (bdT (y1, y2, y3, (A3, n3, c3), y5))
    dsimp only [bdT, tyVal, slv] at run1
    have b3c := h3.cell
    have hbl := h5.size
    have hmb : ∃ es ck, W.heap[w.heap.size]? = some (Obj.map es ck) := by obtain ⟨_, _, ⟨es, ck, hm, _⟩, _⟩ := h4; exact ⟨es, ck, hm⟩
    have fin : KeepsFrom w4.heap.size W W1 ∧ KpB B (w.heap.size + 1 + 1) W W1 ∧ ByInv w (w.heap.size + 1) w.heap.size (pre ++ [(y0, ⟨(y1, y2, y3, (A3, n3, c3), y5), yw⟩)]) W1 := by
      refine ⟨⟨by omega, fun j o hj ho hc => (o1 j (by omega)).trans ho⟩, ⟨⟨g1.os, g1.tape, g1.output, by omega, fun j hj => o1 j (by omega)⟩, fun o ho hc => (o1 _ (by omega)).trans ho⟩, h3.kept g1 (by simp), ?_, h5.trans ((Below.refl _ _).grown g1 hbl (fun k e => by cases e; omega))⟩
      have e1 : ((pre ++ [(y0, (⟨(y1, y2, y3, (A3, n3, c3), y5), yw⟩ : BndW))]).map (·.2.1)).reverse = (y1, y2, y3, (A3, n3, c3), y5) :: (pre.map (·.2.1)).reverse := by simp
      rw [e1, mv_cons, cnt_cons_len, List.length_append]
      have e2 : (mv (pre.map (·.2.1)).reverse y1).isSome = (fnd (pre.map (·.2.1)).reverse y1).isSome := by simp [mv]
      rw [e2] at m1
      exact m1
    have FIN := Lib.hid fin
    clear fin m1 g1 o1 s1 h3 h4 h5 hmb hinv hR4
    gi_wp2
    exact FIN.out
  case done =>
    rintro D ys W hD hys ⟨h3, h4, h5⟩ hK
    have hl1 : (ys.map (·.2.1)).reverse = L.map (·.1) := by
      have : ys.map (·.2.1) = (ys.map (·.2)).map (·.1) := by simp
      rw [this, hys]; simp
    have hl2 : ys.length = L.length := by
      have := congrArg List.length hys
      simpa using this
    rw [hl1, hl2] at h4
    have bc := h3.cell
    have H3 := Lib.hid h3
    have H4 := Lib.hid h4
    have H5 := Lib.hid h5
    clear h3 h4 h5 hinv
    gi_wp2
    refine ⟨by simp, .inl ⟨_, _, rfl, run_takeDeferred hK, ?_⟩⟩
    have hgp := grownBy_putObj' W D (.deferred none)
    have hne : some w.heap.size ≠ some D := by intro e; injection e with e; omega
    exact ⟨_, results_tmp rfl _ _ _, _, rfl, Nat.le_refl _, H4.out.kept hgp hne, H5.out.trans ((Below.refl _ _).grown hgp H5.out.size (fun k e => by cases e; omega))⟩
  case stop =>
    rintro D c pre W _ _ h _
    exact h.elim
end Go.Proofs.YtifdbmdfkhnojaaDoor
/- What a bind is asked: has, of; the document's Find and Counts. -/
namespace Go.Proofs.YtifdbmdfkhnojaaDoor
open Go.RowKit Go.Shelf Go.Maps Go.WideShapes
attribute [local go_sem] Oper.semAt_some
/-- A map's value, as a function: nothing stands in the one that isn't there. -/
def MapV (f : Int → Option Value) (w : World) (m : Value) : Prop :=
  (m = .map none ∧ ∀ n, f n = none) ∨ ∃ b S L, m = .map (some b) ∧ MapF f S L b w
theorem MapV.below {f : Int → Option Value} {w w' : World} {m : Value} (h : MapV f w m) (hb : Below w.heap.size w w') : MapV f w' m := by
  rcases h with h | ⟨b, S, L, h1, h2⟩
  · exact .inl h
  · exact .inr ⟨b, S, L, h1, h2.below hb⟩
theorem MapV.at {f : Int → Option Value} {w w' : World} {m : Value} (h : MapV f w m) {B : Nat} (hB : w.heap.size ≤ B) (hb : Below B w w') : MapV f w' m := h.below (hb.mono hB)
theorem MapV.look_ok {f : Int → Option Value} {W : World} {m : Value} (h : MapV f W m) {mt e : TypeId} {z : Value} (M : MapTy mt e z) (n : Int) (hn : (Lit.int .i64 n).wf = true) : (Instr.lookup mt m (.int .i64 n) true).run Tryd.prog W = .ok (.tuple #[(f n).getD z, .bool (f n).isSome]) W := by
  rcases h with ⟨rfl, h⟩ | ⟨b, S, L, rfl, h2⟩
  · rw [h n]; exact nil_look M W n hn true
  · exact h2.look_ok M n hn
theorem MapV.look {f : Int → Option Value} {W : World} {m : Value} (h : MapV f W m) {mt e : TypeId} {z : Value} (M : MapTy mt e z) (n : Int) (hn : (Lit.int .i64 n).wf = true) : (Instr.lookup mt m (.int .i64 n) false).run Tryd.prog W = .ok ((f n).getD z) W := by
  rcases h with ⟨rfl, h⟩ | ⟨b, S, L, rfl, h2⟩
  · rw [h n]; exact nil_look M W n hn false
  · exact h2.look M n hn
/-- What a map of binds gives. -/
theorem mv_shape (l : List Bnd) (n : Int) : ∃ (k i : Int) (A : Option Addr) (c d : Nat), (mv l n).getD (tyVal 0 0 (.slice none 0 0)) = tyVal k i (.slice A c d) := by
  unfold mv
  cases fnd l n with
  | none => exact ⟨0, 0, none, 0, 0, rfl⟩
  | some b => exact ⟨_, _, _, _, _, rfl⟩
set_option maxHeartbeats 1000000 in
theorem has_bind (w : World) (l : List Bnd) (m : Value) (hm : MapV (mv l) w m) (k n : Int) (u : Sl) (hn : (Lit.int .i64 n).wf = true) :
    Calls Tryd.prog 45 #[m, tyVal k n (slv u)] w fun e w' => e = .returned (.bool (k == 1 && (fnd l n).isSome)) ∧ Below w.heap.size w w' := by
  obtain ⟨u1, u2, u3⟩ := u
  have hlk := (hm.below ((Below.refl _ w).alloc (Nat.le_refl _) (.cells #[.int .i64 k, .int .i64 n, .slice u1 u2 u3] 25))).look_ok bindsTy n hn
  obtain ⟨k2, i2, A2, c2, d2, hsh⟩ := mv_shape l n
  have his : (mv l n).isSome = (fnd l n).isSome := by simp [mv]
  rw [hsh, his] at hlk
  have hB : ∀ v, Below w.heap.size w (((w.alloc (.cells #[.int .i64 k, .int .i64 n, .slice u1 u2 u3] 25))).alloc v) := fun v => ((Below.refl _ w).alloc (Nat.le_refl _) _).alloc (by simp) _
  clear hsh his hm
  dsimp only [tyVal, slv] at hlk ⊢
  go_enter Tryd.func45, Tryd.ntmps45
  cases hs : (fnd l n).isSome
  · rw [hs] at hlk
    go_wp2
    go_ret
    exact ⟨by simp, hB _⟩
  · rw [hs] at hlk
    go_wp2
    go_ret
    exact ⟨by simp, hB _⟩
/-- Where a variable's first bind stands. -/
def idx : List Bnd → Int → Int
  | [], _ => -1
  | b :: l, v => if b.1 = v then 0 else if idx l v < 0 then -1 else idx l v + 1
theorem idx_lo (l : List Bnd) (v : Int) : -1 ≤ idx l v := by
  induction l with
  | nil => simp [idx]
  | cons b l ih =>
    simp only [idx]
    split
    · omega
    · split <;> omega
theorem idx_none {l : List Bnd} {v : Int} : idx l v < 0 ↔ fnd l v = none := by
  induction l with
  | nil => simp [idx, fnd]
  | cons b l ih =>
    simp only [idx, fnd]
    split
    · simp
    · rw [← ih]; split <;> omega
theorem idx_some {l : List Bnd} {v : Int} {j : Nat} (h : idx l v = j) : ∃ hj : j < l.length, fnd l v = some l[j] ∧ ∀ i (hi : i < j), l[i].1 ≠ v := by
  induction l generalizing j with
  | nil => simp [idx] at h
  | cons b l ih =>
    simp only [idx] at h
    split at h
    · obtain rfl : j = 0 := by omega
      rename_i hb
      exact ⟨by simp, by simp [fnd, hb], fun i hi => by omega⟩
    · rename_i hb
      split at h
      · omega
      · cases j with
        | zero => omega
        | succ j =>
          obtain ⟨hj, h1, h2⟩ := ih (j := j) (by omega)
          refine ⟨by simpa using hj, by simp [fnd, hb, h1], fun i hi => ?_⟩
          cases i with
          | zero => simpa using hb
          | succ i => simpa using h2 i (by omega)
/-- So far none. -/
theorem idx_drop {l : List Bnd} {v : Int} {j : Nat} (h : ∀ i (hi : i < l.length), i < j → l[i].1 ≠ v) (hj : j < l.length) (he : l[j].1 = v) : idx l v = j := by
  induction l generalizing j with
  | nil => simp at hj
  | cons b l ih =>
    cases j with
    | zero => simp at he; simp [idx, he]
    | succ j =>
      have hb : b.1 ≠ v := h 0 (by simp) (by omega)
      have := ih (j := j) (fun i hi hij => by have := h (i + 1) (by simpa using hi) (by omega); rwa [List.getElem_cons_succ] at this) (by simpa using hj) (by simpa using he)
      simp only [idx, hb, if_false, this]
      split <;> omega
theorem idx_all {l : List Bnd} {v : Int} (h : ∀ i (hi : i < l.length), l[i].1 ≠ v) : idx l v = -1 := by
  have h1 := idx_lo l v
  have h2 : idx l v < 0 := idx_none.2 (fnd_none.2 fun b hb => by
    obtain ⟨i, hi, rfl⟩ := List.mem_iff_getElem.1 hb
    exact h i hi)
  omega
set_option maxHeartbeats 1000000 in
theorem rfind_any (w : World) (l : List Bnd) (v : Value) (hl : BdV w.heap.size w l v) (hs : l.length ≤ 1000000) (x : Int) :
    Calls Tryd.prog 34 #[v, .int .i64 x] w fun e w' => e = .returned (.int .i64 (idx l x)) ∧ Below w.heap.size w w' := by
  obtain ⟨A, c, rfl⟩ := hl.form
  go_enter Tryd.func34, Tryd.ntmps34
  go_wp2
  go_loopw [5] (fun i wr => ∃ j : Nat, i = .int .i64 j ∧ j ≤ l.length ∧ (∀ i (hi : i < l.length), i < j → l[i].1 ≠ x) ∧ Below w.heap.size w wr) (fun i _ => l.length - (intOf i).toNat)
  case atStart => exact ⟨0, rfl, Nat.zero_le _, fun i hi h => by omega, Below.refl _ _⟩
  case round =>
    obtain ⟨j, rfl, hj, hne, hb⟩ := hrel
    by_cases hjl : j < l.length
    · obtain ⟨b, off, rfl, hlt, c0, _⟩ := (hl.below hb).at j hjl
      by_cases he : l[j].1 = x
      · have hx := idx_drop hne hjl he
        have f1 : (l[j].1 == x) = true := by simp [he]
        go_wp2
        go_ret
        exact ⟨by rw [hx]; rfl, hb⟩
      · have f1 : (l[j].1 == x) = false := by simp [he]
        go_wp2
        go_roundw
        case rel => exact ⟨j + 1, by go_num, by omega, fun i hi hij => if e : i = j then (by subst e; exact he) else hne i hi (by omega), hb⟩
        case measure => simp [intOf]; omega
    · obtain rfl : j = l.length := by omega
      have hx := idx_all fun i hi => hne i hi hi
      go_wp2
      go_ret
      exact ⟨by rw [hx]; rfl, hb⟩
theorem rcounts_any (w : World) (l : List Bnd) (v : Value) (hl : BdV w.heap.size w l v) (hs : l.length ≤ 1000000) (j : Nat) (hj : j < l.length) :
    Calls Tryd.prog 38 #[v, .int .i64 j] w fun e w' => e = .returned (.bool (idx l l[j].1 == (j : Int))) ∧ Below w.heap.size w w' := by
  obtain ⟨A, c, rfl⟩ := hl.form
  obtain ⟨b, off, rfl, hlt, c0, _⟩ := hl.at j hj
  have hf := rfind_any w l _ hl hs l[j].1
  go_enter Tryd.func38, Tryd.ntmps38
  go_wp2_with fail
  refine hf.mono ?_
  rintro e w' ⟨rfl, hb⟩
  go_wp2
  go_ret
  exact ⟨rfl, hb⟩
end Go.Proofs.YtifdbmdfkhnojaaDoor
