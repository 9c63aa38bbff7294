/- Texts of one proof, one behind the other. -/
import Derived.Test.YtifdbmdfkhnojaaDoorMgSubstThen7
import Derived.Test.YtifdbmdfkhnojaaDoorMgSubstThen2
/- slices.Backward at types: what may come next is known; and the arrows' plain facts. -/
namespace Go.Proofs.YtifdbmdfkhnojaaDoor
open Go.RowKit Go.Shelf
attribute [local go_sem] Oper.semAt_some

/-- What comes behind these: the next from the end, with its place. -/
def NextB (L : List Tr) (pre : List (Int × Tr)) (x : Int × Tr) : Prop := ∃ _ : pre.length < L.length, x = (((L.length - 1 - pre.length : Nat) : Int), L[L.length - 1 - pre.length])
set_option maxRecDepth 100000 in
set_option maxHeartbeats 2000000 in
/-- slices.Backward's closure: the last first, each with its place. -/
theorem back1G (n : Nat) (hn : 1 ≤ n) (l Bs B : Nat) (A : Option Addr) (c : Nat) (L : List Tr) (hL : L.length ≤ 1000000) (J Jx : List (Int × Tr) → World → Prop)
    (hY : ∀ pre x W, J pre W → NextB L pre x → YieldAt Fence.wide (n - 1) Tryd.prog l #[.int .i64 x.1, trV x.2] W fun e W' =>
      (e = .returned (.bool true) ∧ J (pre ++ [x]) W' ∧ KpB B Bs W W') ∨ (e = .returned (.bool false) ∧ Jx (pre ++ [x]) W'))
    (W : World) (hBs : Boxed W Bs 23 (.slice A L.length c)) (hR : RdX B W (.slice A L.length c) L) (h0 : J [] W) :
    CallsIn Fence.wide n Tryd.prog 66 #[.func (.yield l) #[] #[], .pointer (some ⟨Bs, 0, none⟩)] W fun e W' => (∃ v, e = .returned v) ∧
      ((∃ ys : List (Int × Tr), ys.map (·.2) = L.reverse ∧ J ys W') ∨ (∃ pre, Jx pre W')) := by
  refine callsIn_of_wp Tryd.func66 rfl trivial ?_ rfl
  simp only [Tryd.ntmps66, List.size_toArray, List.length_cons, List.length_nil, Nat.reduceAdd, Nat.reduceSub, Array.replicate_succ, Array.replicate_zero, List.push_toArray, List.append_toArray, List.nil_append, List.cons_append]
  have e00 : W.cell? ⟨Bs, 0, none⟩ = some (.slice A L.length c) := hBs.cell
  have HBS := Lib.hid hBs
  clear hBs
  gi_wp2
  gi_loopw [3] (fun i wr => ∃ (k : Nat) (z : Int) (pre : List (Int × Tr)), k ≤ L.length ∧ i = .int .i64 z ∧ z + 1 = k ∧ pre.map (·.2) = (L.drop k).reverse ∧ J pre wr ∧ Below B W wr ∧ Boxed wr Bs 23 (.slice A L.length c))
    (fun i _ => (intOf i + 1).toNat)
  case atStart => exact ⟨L.length, _, [], Nat.le_refl _, rfl, by omega, by simp, h0, Below.refl _ _, HBS.out⟩
  case round =>
    obtain ⟨k, z, pre, hk, rfl, hz, hpre, hJs, hnx, hbx⟩ := hrel
    have e0 : wr.cell? ⟨Bs, 0, none⟩ = some (.slice A L.length c) := hbx.cell
    have HBX := Lib.hid hbx
    clear hbx
    by_cases hk0 : 1 ≤ k
    · obtain ⟨A', c', hv, hf⟩ := hR.below hnx
      injection hv with hv1 _ hv3
      subst hv1; subst hv3
      obtain ⟨b, off, rfl, hlt, hc⟩ := hf (by omega)
      obtain ⟨c0, c1, c2⟩ := hc (k - 1) (by omega)
      have hdrop : L.drop (k - 1) = L[k - 1] :: L.drop k := by
        have := List.drop_eq_getElem_cons (l := L) (i := k - 1) (by omega)
        rwa [show k - 1 + 1 = k by omega] at this
      have hpl : pre.length < L.length := by
        have : (pre.map (·.2)).length = pre.length := by simp
        rw [hpre] at this
        simp at this
        omega
      have hnb : NextB L pre (z, L[k - 1]) := by
        have hpl2 : pre.length = L.length - k := by
          have : (pre.map (·.2)).length = pre.length := by simp
          rw [hpre] at this
          simp at this
          omega
        refine ⟨hpl, ?_⟩
        have e : L.length - 1 - pre.length = k - 1 := by omega
        rw [Prod.mk.injEq]
        exact ⟨by omega, by simp only [e]⟩
      obtain ⟨x, hx⟩ : ∃ x, L[k - 1] = x := ⟨_, rfl⟩
      rw [hx] at c0 c1 c2 hdrop hnb
      obtain ⟨x1, x2, x3⟩ := x
      dsimp only [slv] at c2
      obtain ⟨fn, tmps, assign, body, hy, hR2⟩ := hY pre (z, x1, x2, x3) wr hJs hnb
      dsimp only [trV, slv] at hy
      have f1 : (0 : Int) ≤ z := by omega
      have f2 : z < (L.length : Int) := by omega
      have f3 : z.toNat = k - 1 := by omega
      have f4 : decide ((0 : Int) ≤ z) = true := decide_eq_true f1
      have HZ := Lib.hid hz
      have HP := Lib.hid hpre
      have HD := Lib.hid hdrop
      clear hz hpre hdrop hx hc hf hpl hnb
      gi_wp2
      refine hR2.mono ?_
      rintro e W3 (⟨rfl, hJ3, hk3⟩ | ⟨rfl, hJx3⟩)
      · gi_wp2
        go_roundw
        case rel => exact ⟨k - 1, z - 1, pre ++ [(z, x1, x2, x3)], by omega, by go_num, by have := HZ.out; omega, by simp [HP.out, HD.out], hJ3, hnx.trans hk3.below, hk3.boxed HBX.out⟩
        case measure => simp [intOf]; omega
      · gi_wp2
        refine bodyPost_ret (results_none rfl _ _ _) rfl ?_
        exact ⟨⟨_, rfl⟩, .inr ⟨_, hJx3⟩⟩
    · obtain rfl : k = 0 := by omega
      have f1 : ¬ (0 : Int) ≤ z := by omega
      have f4 : decide ((0 : Int) ≤ z) = false := decide_eq_false f1
      have HP := Lib.hid hpre
      clear hz hpre
      gi_wp2
      go_end0
      exact ⟨⟨_, rfl⟩, .inl ⟨pre, by simpa using HP.out, hJs⟩⟩
theorem back_seqG (n : Nat) (hn : 1 ≤ n) (Bs B : Nat) (t : TypeId) (A : Option Addr) (c : Nat) (L : List Tr) (hL : L.length ≤ 1000000) (w : World) (hBw : B ≤ w.heap.size) (hBs : Boxed w Bs 23 (.slice A L.length c)) (hR : RdX B w (.slice A L.length c) L) :
    SeqG n Tryd.prog 66 #[.pointer (some ⟨Bs, 0, none⟩)] t (fun x : Int × Tr => #[Value.int .i64 x.1, trV x.2]) (KpB B Bs) (fun ys => ys.map (·.2) = L.reverse) (fun _ => True) (NextB L) w := fun l J Jx W hW _ _ hY h0 => by
  have hbs : Boxed W Bs 23 (.slice A L.length c) := (hW.block Bs hBs.lt).trans hBs
  refine (back1G n hn l Bs B A c L hL J Jx hY W hbs (hR.below (hW.mono hBw)) h0).mono ?_
  rintro e W' ⟨he, ⟨ys, hy, hj⟩ | ⟨pre, hj⟩⟩
  · exact ⟨he, .inl ⟨ys, hy, hj⟩⟩
  · exact ⟨he, .inr ⟨pre, trivial, hj⟩⟩
namespace Fo
/-- The arrow from each to the next one: its kind, its number, its parts. -/
def arrF : Fo → Int × Int × Fo
  | nil => (0, 0, nil)
  | cons k n v ps r => if r.len = 0 then (k, n, ps) else (4, 0, cons k n v ps (cons r.arrF.1 r.arrF.2.1 (none, 0, 0) r.arrF.2.2 nil))
theorem len_drop (f : Fo) (j : Nat) : (f.drop j).len = f.len - j := by
  induction f generalizing j with
  | nil => cases j <;> simp [drop, len]
  | cons k n v ps r _ ih =>
    cases j with
    | zero => simp [drop]
    | succ j => simp [drop, len, ih]
theorem top_get (f : Fo) (j : Nat) (hj : j < f.top.length) : f.top[j] = ((f.at_ j).1, (f.at_ j).2.1, (f.at_ j).2.2.1) := by
  induction f generalizing j with
  | nil => simp [top] at hj
  | cons k n v ps r _ ih =>
    cases j with
    | zero => rfl
    | succ j => simpa [top, at_] using ih j (by simpa [top] using hj)
end Fo
/-- Two types, laid as a list's. -/
theorem FreshT.two {T : TypeId} {B : Nat} {w : World} {psx psy : Fo} {kx nx ky ny : Int} {ux uy vx vy : Sl} (hx : FreshT T B w idn psx ux) (hy : FreshT T B w idn psy uy) (c : Nat) (hB : B ≤ c) (hc : w.heap[c]? = some (Obj.cells #[.int .i64 kx, .int .i64 nx, slv ux, .int .i64 ky, .int .i64 ny, slv uy] T)) :
    FreshT T B w idn (.cons kx nx vx psx (.cons ky ny vy psy .nil)) (some ⟨c, 0, none⟩, 2, 2) := by
  intro W hs hk
  obtain ⟨gx, ix, tx⟩ := hx W hs hk
  obtain ⟨gy, iy, ty⟩ := hy W hs hk
  have hcW := hk c _ hB hc
  have cell := fun j => cell_of_row W c j _ _ (0, 0) hcW
  refine ⟨.cons kx nx ux gx (.cons ky ny uy gy .nil), ⟨rfl, (nm_id _ _).symm, ix, rfl, (nm_id _ _).symm, iy, trivial⟩, tyV_cons.2 ⟨c, 0, 2, rfl, Nat.le_refl _, by unfold maxLen; omega, (Array.getElem?_eq_some_iff.1 hcW).1, tyC_cons.2 ⟨cell 0, cell 1, cell 2, tx, tyC_cons.2 ⟨cell 3, cell 4, cell 5, ty, tyC_nil⟩⟩⟩⟩
end Go.Proofs.YtifdbmdfkhnojaaDoor
/- types.Arrow. -/
namespace Go.Proofs.YtifdbmdfkhnojaaDoor
open Go.RowKit Go.Shelf
attribute [local go_sem] Oper.semAt_some

/-- Three cells, stored. -/
theorem set3 {T : TypeId} {w : World} (g : Nat) (x y z k n u : Value) (hg : w.heap[g]? = some (Obj.cells #[x, y, z] T)) :
    w.cell? ⟨g, 0, none⟩ = some x ∧ w.cell? ⟨g, 1, none⟩ = some y ∧ w.cell? ⟨g, 2, none⟩ = some z ∧ w.frozen? ⟨g, 0, none⟩ = false ∧ w.frozen? ⟨g, 1, none⟩ = false ∧ w.frozen? ⟨g, 2, none⟩ = false ∧
    ∃ w', ((w.setCell ⟨g, 0, none⟩ k).setCell ⟨g, 1, none⟩ n).setCell ⟨g, 2, none⟩ u = w' ∧ w'.heap[g]? = some (Obj.cells #[k, n, u] T) ∧ w'.heap.size = w.heap.size ∧ (∀ b, b ≠ g → w'.heap[b]? = w.heap[b]?) ∧ Below g w w' := by
  refine ⟨cell_of_row w g 0 _ _ (0, 0) hg, cell_of_row w g 1 _ _ (0, 0) hg, cell_of_row w g 2 _ _ (0, 0) hg, frozen_cells hg 0, frozen_cells hg 1, frozen_cells hg 2, _, rfl, ?_, by simp [World.setCell], fun b hne => ?_, ?_⟩
  · exact heap_setCell_same _ g 2 _ T u (heap_setCell_same _ g 1 _ T n (heap_setCell_same w g 0 _ T k hg))
  · rw [Below.heap_setCell _ _ _ _ (by simpa using hne), Below.heap_setCell _ _ _ _ (by simpa using hne), Below.heap_setCell _ _ _ _ (by simpa using hne)]
  · exact (((Below.refl g w).setCell (p := ⟨g, 0, none⟩) (Nat.le_refl g) _).setCell (p := ⟨g, 1, none⟩) (Nat.le_refl g) _).setCell (p := ⟨g, 2, none⟩) (Nat.le_refl g) _
/-- What stands between the rounds. -/
def ArInv (w : World) (vl : Value) (f : Fo) (j : Nat) (W : World) : Prop :=
  (∃ u : Sl, W.heap[w.heap.size + 2]? = some (Obj.cells #[.int .i64 (f.drop (f.len - j)).arrF.1, .int .i64 (f.drop (f.len - j)).arrF.2.1, slv u] 25) ∧ FreshT 25 (w.heap.size + 3) W idn (f.drop (f.len - j)).arrF.2.2 u) ∧
    Boxed W w.heap.size 23 vl ∧ W.heap[w.heap.size + 1]? = some (Obj.cells rt0 25) ∧ Below w.heap.size w W
theorem ArInv.kept {w : World} {vl : Value} {f : Fo} {j : Nat} {W W' : World} (h : ArInv w vl f j W) (hs : W.heap.size ≤ W'.heap.size) (hk : ∀ (b : Nat) (cs : Array Value) (t : TypeId), t ≠ 98 → W.heap[b]? = some (Obj.cells cs t) → W'.heap[b]? = some (Obj.cells cs t)) (hb : Below w.heap.size w W') : ArInv w vl f j W' := by
  obtain ⟨⟨u, hu, hf⟩, hx, hr, _⟩ := h
  exact ⟨⟨u, hk _ _ _ (by decide) hu, hf.to hs fun b cs _ hc => hk _ _ _ (by decide) hc⟩, hk _ _ _ (by decide) hx, hk _ _ _ (by decide) hr, hb⟩
theorem ArInv.own {w : World} {vl : Value} {f : Fo} (B : Nat) (hB : w.heap.size ≤ B) : OwnFrom B (fun (pre : List (Int × Tr)) W => ArInv w vl f pre.length W) := by
  intro s W W' row hs hg hr
  have hb : Below w.heap.size w W' := ⟨hg.os.trans hs.2.2.2.os, hg.tape.trans hs.2.2.2.tape, hg.output.trans hs.2.2.2.output, Nat.le_trans hs.2.2.2.size hg.size, fun k hk => (hg.block k (Nat.lt_of_lt_of_le hk hs.2.2.2.size) (fun e => by have := (hr k e.symm).1; omega)).trans (hs.2.2.2.block k hk)⟩
  refine hs.kept hg.size (fun b cs t _ hc => (hg.block b (Array.getElem?_eq_some_iff.1 hc).1 fun e => ?_).trans hc) hb
  obtain ⟨o, ho, hoc⟩ := (hr b e.symm).2
  rw [hc] at ho
  cases ho
  cases hoc
theorem ArInv.ab {w : World} {vl : Value} {f : Fo} (B : Nat) (hB : w.heap.size ≤ B) : AbC B 98 (fun (pre : List (Int × Tr)) W => ArInv w vl f pre.length W) := by
  intro s W W' hs hc
  have hb : Below w.heap.size w W' := hs.2.2.2.trans (hc.below hB hs.2.2.2.size)
  obtain ⟨row, hg, hr⟩ := hc
  refine hs.kept hg.size (fun b cs t hne hcc => (hg.block b (Array.getElem?_eq_some_iff.1 hcc).1 fun e => ?_).trans hcc) hb
  obtain ⟨_, cs', hc'⟩ := hr b e.symm
  rw [hcc] at hc'
  cases hc'
  exact hne rfl
/-- A round, put together. -/
theorem ar_fin {w : World} {vl : Value} {f : Fo} {pre : List (Int × Tr)} {x : Int × Tr} {W W3 W4 : World} {k n : Int} {u : Sl} {o : Array Value} (hi : ArInv w vl f pre.length W) (h3 : Below W.heap.size W W3) (h4 : W4.heap[w.heap.size + 2]? = some (Obj.cells #[.int .i64 k, .int .i64 n, slv u] 25)) (hs : W4.heap.size = W3.heap.size) (hfar : ∀ b, b ≠ w.heap.size + 2 → W4.heap[b]? = W3.heap[b]?) (hb4 : Below (w.heap.size + 2) W3 W4)
    (hk : k = (f.drop (f.len - (pre.length + 1))).arrF.1) (hn : n = (f.drop (f.len - (pre.length + 1))).arrF.2.1) (hf : FreshT 25 (w.heap.size + 3) W3 idn (f.drop (f.len - (pre.length + 1))).arrF.2.2 u)
    (hW0 : W.heap[w.heap.size + 3]? = some (Obj.cells o 23)) (B0 : Nat) (hB0 : w.heap.size + 4 ≤ B0) (hBW : B0 ≤ W.heap.size) :
    KeepsFrom B0 W W4 ∧ KpB w.heap.size (w.heap.size + 3) W W4 ∧ ArInv w vl f (pre ++ [x]).length W4 := by
  have hz := h3.size
  have all : ∀ b, b < W.heap.size → b ≠ w.heap.size + 2 → W4.heap[b]? = W.heap[b]? := fun b hb hne => (hfar b hne).trans (h3.block b hb)
  have hbl : Below w.heap.size w W4 := (hi.2.2.2.trans (h3.mono (by omega))).trans (hb4.mono (by omega))
  refine ⟨⟨by omega, fun b o' hb ho _ => (all b (Array.getElem?_eq_some_iff.1 ho).1 (by omega)).trans ho⟩, ⟨(h3.mono (by omega)).trans (hb4.mono (by omega)), fun o' ho _ => (all _ (Array.getElem?_eq_some_iff.1 ho).1 (by omega)).trans ho⟩, ?_⟩
  rw [List.length_append, List.length_singleton]
  refine ⟨⟨u, by rw [← hk, ← hn]; exact h4, hf.to (by omega) fun b cs hb hc => (hfar b (by omega)).trans hc⟩, (all _ (by omega) (by omega)).trans hi.2.1, (all _ (by omega) (by omega)).trans hi.2.2.1, hbl⟩
end Go.Proofs.YtifdbmdfkhnojaaDoor
/- types.Arrow: the walk. -/
namespace Go.Proofs.YtifdbmdfkhnojaaDoor
open Go.RowKit Go.Shelf
attribute [local go_sem] Oper.semAt_some

set_option maxRecDepth 100000 in
set_option maxHeartbeats 4000000 in
theorem arrow_any (w : World) (f : Fo) (vl : Value) (hvl : TyV w.heap.size w f vl) (hsz : f.size < 1000000) :
    Calls Tryd.prog 31 #[vl] w fun e w' => ∃ u' : Sl, e = .returned (tyVal f.arrF.1 f.arrF.2.1 (slv u')) ∧ Below w.heap.size w w' ∧ FreshT 25 w.heap.size w' idn f.arrF.2.2 u' := by
  obtain ⟨A, c, rfl⟩ := hvl.slice
  have hll := f.len_le_size
  refine (callsIn_wide (n := 4)).1 ?_
  refine callsIn_of_wp_marks Tryd.func31 rfl trivial ?_ rfl
  simp only [Tryd.ntmps31, List.size_toArray, List.length_cons, List.length_nil, Nat.reduceAdd, Nat.reduceSub, Array.replicate_succ, Array.replicate_zero, List.push_toArray, List.append_toArray, List.nil_append, List.cons_append]
  gi_wp2_with (refine ⟨trivial, ?_⟩; gi_at_call 53; refine (callsIn_wide.2 (back_make A f.len c _)).mono ?_; rintro e w' ⟨rfl, rfl⟩)
  obtain ⟨w0, hw0⟩ : ∃ w0, (((w.alloc (.cells #[.slice A f.len c] 23)).alloc (.cells #[.int .i64 0, .int .i64 0, .slice none 0 0] 25)).alloc (.cells #[.int .i64 0, .int .i64 0, .slice none 0 0] 25)).alloc (.cells #[.slice A f.len c] 23) = w0 := ⟨_, rfl⟩
  have hs0 : w0.heap.size = w.heap.size + 4 := by rw [← hw0]; simp
  have hB0 : Below w.heap.size w w0 := by rw [← hw0]; exact ((((Below.refl _ w).alloc (Nat.le_refl _) _).alloc (by simp) _).alloc (by simp only [World.size_alloc]; omega) _).alloc (by simp only [World.size_alloc]; omega) _
  have h0 : w0.heap[w.heap.size]? = some (.cells #[.slice A f.len c] 23) := by
    rw [← hw0]
    exact (Below.heap_alloc _ _ _ (by simp only [World.size_alloc]; omega)).trans ((Below.heap_alloc _ _ _ (by simp only [World.size_alloc]; omega)).trans ((Below.heap_alloc _ _ _ (by simp only [World.size_alloc]; omega)).trans (heap_alloc_new w _)))
  have h1 : w0.heap[w.heap.size + 1]? = some (.cells rt0 25) := by
    rw [← hw0]
    refine (Below.heap_alloc _ _ _ (by simp only [World.size_alloc]; omega)).trans ((Below.heap_alloc _ _ _ (by simp only [World.size_alloc]; omega)).trans ?_)
    have := heap_alloc_new (w.alloc (.cells #[.slice A f.len c] 23)) (.cells #[.int .i64 0, .int .i64 0, .slice none 0 0] 25)
    rwa [World.size_alloc] at this
  have h2 : w0.heap[w.heap.size + 2]? = some (.cells rt0 25) := by
    rw [← hw0]
    refine (Below.heap_alloc _ _ _ (by simp only [World.size_alloc]; omega)).trans ?_
    have := heap_alloc_new ((w.alloc (.cells #[.slice A f.len c] 23)).alloc (.cells #[.int .i64 0, .int .i64 0, .slice none 0 0] 25)) (.cells #[.int .i64 0, .int .i64 0, .slice none 0 0] 25)
    simp only [World.size_alloc] at this
    exact this
  have h3 : w0.heap[w.heap.size + 3]? = some (.cells #[.slice A f.len c] 23) := by
    rw [← hw0]
    have := heap_alloc_new (((w.alloc (.cells #[.slice A f.len c] 23)).alloc (.cells #[.int .i64 0, .int .i64 0, .slice none 0 0] 25)).alloc (.cells #[.int .i64 0, .int .i64 0, .slice none 0 0] 25)) (.cells #[.slice A f.len c] 23)
    simp only [World.size_alloc] at this
    exact this
  have hR0 : RdX w.heap.size w0 (.slice A f.len c) f.top := hvl.rd.below hB0
  have hTL : TyL w.heap.size w f := hvl.list
  rw [hw0]
  rw [← Fo.top_len] at h0 h3 hR0 ⊢
  have hinv : ArInv w (.slice A f.top.length c) f 0 w0 := by
    have hdl : f.drop (f.len - 0) = .nil := f.drop_len
    refine ⟨⟨(none, 0, 0), ?_, ?_⟩, h0, h1, hB0⟩
    · rw [hdl]; exact h2
    · rw [hdl]
      intro W _ _
      exact ⟨.nil, trivial, tyV_nil.2 ⟨none, 0, rfl⟩⟩
  have h33 : Boxed w0 (w.heap.size + 3) 23 (.slice A f.top.length c) := h3
  clear hw0 h0 h1 h2 h3
  refine wpIn_rangeG (by omega) (gf := 66) (lb := #[.pointer (some ⟨w.heap.size + 1 + 1 + 1, 0, none⟩)]) rfl (enters_of Tryd.func66 (by kernel_rfl) rfl)
    (back_seqG 3 (by omega) (w.heap.size + 3) w.heap.size 98 A c f.top (by rw [Fo.top_len]; omega) w0 (by omega) h33 hR0) (Below.refl _ _) KpB.t (KpB.b (by omega)) (fun _ => rfl)
    (fun pre W => ArInv w (.slice A f.top.length c) f pre.length W ∧ Boxed W (w.heap.size + 3) 23 (.slice A f.top.length c)) (fun _ _ _ => False)
    (OwnFrom.and (ArInv.own _ (by omega)) (Own.from (boxed_own _ _ (fun _ => .slice A f.top.length c)) _)) (fun _ _ _ _ _ hs _ _ => hs)
    (AbC.and (ArInv.ab _ (by omega)) (box_ab (by decide))) (fun _ _ _ _ hs _ => hs)
    ⟨hinv, h33⟩
    (fun x a' W => ∃ Bx, W.heap[Bx]? = some (Obj.cells #[.int .i64 x.2.1, .int .i64 x.2.2.1, slv x.2.2.2] 25) ∧ a' = { tmps := #[.slice A f.top.length c, .pointer (some ⟨w.heap.size, 0, none⟩), .pointer (some ⟨w.heap.size + 1, 0, none⟩), .pointer (some ⟨w.heap.size + 1 + 1, 0, none⟩), .int .i64 x.1, .pointer (some ⟨Bx, 0, none⟩), .slice A f.top.length c, .func (.func 66) #[] #[.pointer (some ⟨w.heap.size + 1 + 1 + 1, 0, none⟩)], .int .i64 x.1, trV x.2, undef, undef, undef, undef, undef, undef, undef, undef, undef, undef, undef, undef, undef], defers := [] })
    (fun x a' s W W' row hs hg hr => by
      obtain ⟨Bx, hc, ha⟩ := hs
      refine ⟨Bx, (hg.block Bx (Array.getElem?_eq_some_iff.1 hc).1 fun e => ?_).trans hc, ha⟩
      obtain ⟨o, ho, hoc⟩ := (hr Bx e.symm).2
      rw [hc] at ho
      cases ho
      cases hoc) ?assign ?body ?done ?stop
  case assign =>
    rintro l pre x W K hi hK
    obtain ⟨x0, x1, x2, A3, n3, c3⟩ := x
    dsimp only [trV, slv] at hK ⊢
    have hbel := hi.1.2.2.2
    have hsW := hbel.size
    have hlt3 := hi.2.lt
    have HI := Lib.hid hi
    clear hi
    gi_wp2
    refine hK _ _ ((KeepsOthers.alloc _ _).from _) ⟨(Below.refl _ _).alloc hsW _, fun o ho _ => (Below.heap_alloc _ _ _ hlt3).trans ho⟩ ?_ ⟨W.heap.size, heap_alloc_new W _, rfl⟩
    exact ⟨(ArInv.own w.heap.size (Nat.le_refl _)).alloc (s := pre) _ HI.out.1, HI.out.2.alloc _⟩
  case body =>
    rintro l pre x a' W hl ⟨hi, hbx⟩ ⟨Bx, hc, rfl⟩ ⟨hpl, hx⟩
    obtain ⟨q, hq⟩ : ∃ q, f.top.length = q := ⟨_, rfl⟩
    obtain ⟨i, hii⟩ : ∃ i, f.top.length - 1 - pre.length = i := ⟨_, rfl⟩
    have hqf : f.len = q := by rw [← hq, Fo.top_len]
    have hil : i < f.len := by omega
    have htop := f.top_get i (by rw [Fo.top_len]; exact hil)
    have hds := f.drop_step i hil
    have hpsz := f.at_size i hil
    have hpT := hTL.at i hil
    simp only [hii] at hx
    rw [htop] at hx
    have hd1 : f.drop (f.len - (pre.length + 1)) = f.drop i := by congr 1; omega
    have hd0 : f.drop (f.len - pre.length) = f.drop (i + 1) := by congr 1; omega
    have hdl := f.len_drop (i + 1)
    subst hx
    generalize f.at_ i = p at *
    obtain ⟨k, n, ⟨u1, u2, u3⟩, ps⟩ := p
    dsimp only [trV, slv] at hc hpT hpsz hds ⊢
    have hbw := hi.2.2.2
    have hsW := hbw.size
    obtain ⟨⟨ua, hua, hfa⟩, hbp, hrt, _⟩ := id hi
    have hFC : ∀ Wx, Below W.heap.size W Wx → Calls Tryd.prog 47 #[tyVal k n (.slice u1 u2 u3)] Wx fun e w' => ∃ u' : Sl, e = .returned (tyVal k n (slv u')) ∧ Below Wx.heap.size Wx w' ∧ FreshT 25 Wx.heap.size w' idn ps u' :=
      fun Wx hx => copy_any Wx k n (u1, u2, u3) ps (hpT.keep (Nat.le_trans hsW hx.size) fun b off hb => ((hbw.trans (hx.mono hsW)).cell (p := ⟨b, off, none⟩) hb)) (by omega)
    have e0 : W.cell? ⟨w.heap.size, 0, none⟩ = some (.slice A q c) := by rw [← hq]; exact hbp.cell
    have x0 : W.cell? ⟨Bx, 0, none⟩ = some (.int .i64 k) := cell_of_row W Bx 0 _ _ (0, 0) hc
    have x1 : W.cell? ⟨Bx, 1, none⟩ = some (.int .i64 n) := cell_of_row W Bx 1 _ _ (0, 0) hc
    have x2 : W.cell? ⟨Bx, 2, none⟩ = some (.slice u1 u2 u3) := cell_of_row W Bx 2 _ _ (0, 0) hc
    have hl2 : w.heap.size + 2 < W.heap.size := (Array.getElem?_eq_some_iff.1 hua).1
    have hl4 : w.heap.size + 4 ≤ W.heap.size := by have := hbx.lt; omega
    have HI := Lib.hid hi
    have HBX := Lib.hid hbx
    have HFA := Lib.hid hfa
    have HUA := Lib.hid hua
    have HDS := Lib.hid hds
    have HD := Lib.hid (And.intro hd1 (And.intro hd0 hdl))
    have HFC := Lib.hid hFC
    have HQ := Lib.hid (And.intro hq (And.intro hqf (And.intro hii hil)))
    have HBW := Lib.hid hbw
    have hiq : (i : Int) + pre.length + 1 = q := by omega
    have HIQ := Lib.hid hiq
    have hpq : pre.length < q := by omega
    have hqb : q ≤ 1000000 := by omega
    rw [hq] at *
    clear hi hbx hfa hds hd1 hd0 hdl hFC hq hqf hii hil htop hpT hbw hbp hrt hc hiq hpl hR0 hinv h33 hTL hua
    rcases Nat.eq_zero_or_pos pre.length with hp0 | hp0
    · have f1 : ((i : Int) == (q : Int) - 1) = true := by have := HIQ.out; simp; omega
      gi_wp2_with (refine ⟨trivial, ?_⟩; gi_at_call 47; refine (CallsIn.inRound l (callsIn_wide.2 (HFC.out W (Below.refl _ _)))).mono ?_; rintro e w3 ⟨⟨v1, v2, v3⟩, rfl, hb3, hf3⟩; obtain ⟨r0, r1, r2, z0, z1, z2, W4, hW4, h4, hsz4, hfar, hb4⟩ := set3 (w := w3) (w.heap.size + 1 + 1) _ _ _ (.int .i64 k) (.int .i64 n) (.slice v1 v2 v3) ((hb3.block _ hl2).trans HUA.out); have H3 := Lib.hid (And.intro hb3 (And.intro hf3 (And.intro h4 (And.intro hsz4 (And.intro hfar hb4))))); clear hb3 hf3 h4 hsz4 hfar hb4; dsimp only [tyVal, slv])
      obtain ⟨hb3, hf3, h4, hsz4, hfar, hb4⟩ := H3.out
      obtain ⟨hd1, hd0, hdl⟩ := HD.out
      have harr : (f.drop i).arrF = (k, n, ps) := by
        rw [HDS.out, Fo.arrF, if_pos (by have := HQ.out; have := HIQ.out; omega)]
      obtain ⟨y1, y2, y3⟩ := ar_fin (x := ((i : Int), k, n, (u1, u2, u3))) (u := (v1, v2, v3)) HI.out hb3 h4 hsz4 hfar hb4 (by rw [hd1, harr]) (by rw [hd1, harr]) (by rw [hd1, harr]; exact hf3.mono (by omega)) HBX.out (w.heap.size + 4) (by omega) (by omega)
      exact ⟨y1, y2, y3, y2.boxed HBX.out⟩
    · have f1 : ((i : Int) == (q : Int) - 1) = false := by
        refine beq_eq_false_iff_ne.2 ?_
        have := HIQ.out
        omega
      have hmix : Tryd.prog.follows Departure.mixedOrders = true := by kernel_rfl
      have HUA2 := HUA.out
      rw [HD.out.2.1] at HUA2
      have hfa2 := HFA.out
      rw [HD.out.2.1] at hfa2
      generalize hax : (f.drop (i + 1)).arrF = ax at *
      obtain ⟨xk, xn, xps⟩ := ax
      obtain ⟨ua1, ua2, ua3⟩ := ua
      dsimp only [slv] at HUA2 hfa2
      obtain ⟨s0, s1, s2, _⟩ := set3 (w := W) (w.heap.size + 1 + 1) _ _ _ (.int .i64 k) (.int .i64 n) (.slice none 0 0) HUA2
      have HUA3 := Lib.hid HUA2
      have HFA3 := Lib.hid hfa2
      have HAX := Lib.hid hax
      clear HUA HFA HUA2 hfa2 hax
      gi_wp2
      gi_region_with_o (refine ⟨trivial, ?_⟩; gi_at_call 47; refine (CallsIn.inRound l (callsIn_wide.2 (HFC.out W.drew ((Below.refl _ _).drew)))).mono ?_; rintro e w3 ⟨⟨v1, v2, v3⟩, rfl, hb3, hf3⟩; obtain ⟨r0, r1, r2, z0, z1, z2, W4, hW4, h4, hsz4, hfar, hb4⟩ := set3 (w := w3) (w.heap.size + 1 + 1) _ _ _ (.int .i64 4) (.int .i64 0) (.slice (some ⟨w3.heap.size, 0, none⟩) 2 2) ((hb3.block _ hl2).trans HUA3.out); have hl3 : w.heap.size + 1 + 1 < w3.heap.size := Nat.lt_of_lt_of_le hl2 hb3.size; have H3 := Lib.hid (And.intro hb3 (And.intro hf3 (And.intro h4 (And.intro hsz4 (And.intro hfar hb4))))); clear hb3 hf3 h4 hsz4 hfar hb4; dsimp only [tyVal, slv])
      all_goals gi_wp2
      all_goals
        obtain ⟨hb3, hf3, h4, hsz4, hfar, hb4⟩ := H3.out
        obtain ⟨hd1, hd0, hdl⟩ := HD.out
        have harr : (f.drop i).arrF = (4, 0, .cons k n (u1, u2, u3) ps (.cons xk xn (none, 0, 0) xps .nil)) := by
          rw [HDS.out, Fo.arrF, if_neg (by have := HQ.out; have := HIQ.out; omega), HAX.out]
        have hb3' : Below W.heap.size W w3 := (Below.refl _ W).drew.trans hb3
        have ho : ∀ o : Obj, Below w3.heap.size w3 (w3.alloc o) := fun o => (Below.refl _ _).alloc (Nat.le_refl _) o
        obtain ⟨y1, y2, y3⟩ := ar_fin (W3 := w3.alloc (.cells #[.int .i64 k, .int .i64 n, .slice v1 v2 v3, .int .i64 xk, .int .i64 xn, .slice ua1 ua2 ua3] 25)) (W4 := W4.alloc (.cells #[.int .i64 k, .int .i64 n, .slice v1 v2 v3, .int .i64 xk, .int .i64 xn, .slice ua1 ua2 ua3] 25)) (x := ((i : Int), k, n, (u1, u2, u3))) (u := (some ⟨w3.heap.size, 0, none⟩, 2, 2)) (o := #[.slice A q c]) HI.out (hb3'.trans ((ho _).mono hb3'.size)) ((Below.heap_alloc _ _ _ (by omega)).trans h4) (by simp [hsz4]) (fun b hne => by simp only [World.alloc, Array.getElem?_push, hsz4, hfar b hne]) ⟨hb4.os, hb4.tape, hb4.output, by simp [hsz4], fun b hb => by simp only [World.alloc, Array.getElem?_push, hsz4, hb4.block b hb]⟩ (by rw [hd1, harr]) (by rw [hd1, harr])
          (by
            rw [hd1, harr]
            refine FreshT.two (kx := k) (nx := n) (ux := (v1, v2, v3)) (ky := xk) (ny := xn) (uy := (ua1, ua2, ua3)) ((hf3.mono (show w.heap.size + 3 ≤ W.heap.size by omega)).below (ho _)) ((HFA3.out.below hb3').below (ho _)) w3.heap.size (by omega) (heap_alloc_new w3 _)) HBX.out (w.heap.size + 4) (by omega) (by omega)
        refine ⟨?_, y2, y3, y2.boxed HBX.out⟩
        first | exact y1 | (rw [hs0]; exact y1)
  case done =>
    rintro D ys W hD hys ⟨hi, hbx⟩ hK
    have hlen : ys.length = f.len := by
      have : (ys.map (·.2)).length = f.top.reverse.length := by rw [hys]
      simpa [Fo.top_len] using this
    rw [hlen] at hi
    have hdr : f.drop (f.len - f.len) = f := by rw [Nat.sub_self]; exact f.drop_zero
    unfold ArInv at hi
    rw [hdr] at hi
    obtain ⟨⟨⟨ua1, ua2, ua3⟩, hua, hfa⟩, hbp, hrt, hbw⟩ := hi
    generalize hax : f.arrF = ax at *
    obtain ⟨xk, xn, xps⟩ := ax
    dsimp only [slv] at hua hfa ⊢
    have x0 : W.cell? ⟨w.heap.size + 1 + 1, 0, none⟩ = some (.int .i64 xk) := cell_of_row W _ 0 _ _ (0, 0) hua
    have x1 : W.cell? ⟨w.heap.size + 1 + 1, 1, none⟩ = some (.int .i64 xn) := cell_of_row W _ 1 _ _ (0, 0) hua
    have x2 : W.cell? ⟨w.heap.size + 1 + 1, 2, none⟩ = some (.slice ua1 ua2 ua3) := cell_of_row W _ 2 _ _ (0, 0) hua
    obtain ⟨r0, r1, r2, z0, z1, z2, W4, hW4, h4, hsz4, hfar, hb4⟩ := set3 (w := W) (w.heap.size + 1) _ _ _ (.int .i64 xk) (.int .i64 xn) (.slice ua1 ua2 ua3) hrt
    have hK4 : W4.heap[D]? = some (.deferred (some [])) := (hfar D (by omega)).trans hK
    have hgp := grownBy_putObj' W4 D (.deferred none)
    have h5 : (W4.putObj D (.deferred none)).heap[w.heap.size + 1]? = some (Obj.cells #[.int .i64 xk, .int .i64 xn, .slice ua1 ua2 ua3] 25) := (hgp.block _ (Array.getElem?_eq_some_iff.1 h4).1 (fun e => by injection e with e; omega)).trans h4
    have hb5 : Below w.heap.size w (W4.putObj D (.deferred none)) := (hbw.trans (hb4.mono (by omega))).trans ((Below.refl _ _).grown hgp (by have := hbw.size; omega) (fun k e => by cases e; omega))
    have hf5 : FreshT 25 w.heap.size (W4.putObj D (.deferred none)) idn xps (ua1, ua2, ua3) := by
      refine (hfa.to (Nat.le_trans (by omega) hgp.size) fun b cs hb hc => ?_).mono (by omega)
      have hbl := (Array.getElem?_eq_some_iff.1 hc).1
      refine (hgp.block b (by omega) (fun e => ?_)).trans ((hfar b (by omega)).trans hc)
      injection e with e
      rw [e, hK] at hc
      cases hc
    have HLD := Lib.hid (load_ty (w := W4.putObj D (.deferred none)) (g := w.heap.size + 1) (k := xk) (n := xn) (u := (ua1, ua2, ua3)) (cell_of_row _ _ 0 _ _ (0, 0) h5) (cell_of_row _ _ 1 _ _ (0, 0) h5) (cell_of_row _ _ 2 _ _ (0, 0) h5))
    have HB5 := Lib.hid hb5
    have HF5 := Lib.hid hf5
    have HK4 := Lib.hid hK4
    have HAX := Lib.hid hax
    clear hua hfa hbp hrt hbw hbx hK hgp h5 hb5 hf5 hK4 h4 hsz4 hfar hb4 hax hys hlen hdr
    gi_wp2
    refine ⟨by simp, .inl ⟨_, _, rfl, run_takeDeferred HK4.out, ?_⟩⟩
    exact ⟨_, results_box rfl _ _ _ _ rfl HLD.out, (ua1, ua2, ua3), by rw [HAX.out], HB5.out, by rw [HAX.out]; exact HF5.out⟩
  case stop =>
    rintro D c pre W _ _ h _
    exact h.elim
end Go.Proofs.YtifdbmdfkhnojaaDoor
