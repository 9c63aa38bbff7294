/- Texts of one proof, one behind the other. -/
import Derived.Test.YtifdbmdfkhnojaaDoorMgSubstRules14
import Derived.Test.YtifdbmdfkhnojaaDoorMgSubstRules18
import Derived.Test.YtifdbmdfkhnojaaDoorMgSubstRules2
/- Binds in memory; an argument that is a slice of binds, opened. -/
namespace Go.Proofs.YtifdbmdfkhnojaaDoor
open Go.RowKit Go.ChangeShapes Go.WideShapes Go.ChangeAt Go.Deep
/-- A bind's cells. -/
def bdC (b : Bnd) : List Value := [.int .i64 b.1, .int .i64 b.2.1, .int .i64 b.2.2.1, slv b.2.2.2.1]
def bdV (b : Bnd) : Value := .agg #[.int .i64 b.1, .int .i64 b.2.1, .int .i64 b.2.2.1, slv b.2.2.2.1]
/-- Its type's value. -/
def bdT (b : Bnd) : Value := tyVal b.2.1 b.2.2.1 (slv b.2.2.2.1)
/-- A slice value that reads as these binds, below block B. -/
def BdV (B : Nat) (w : World) (l : List Bnd) (v : Value) : Prop :=
  ∃ A c, v = .slice A l.length c ∧ (0 < l.length → ∃ b off, A = some ⟨b, off, none⟩ ∧ b < B ∧ l.length ≤ c ∧ c ≤ maxLen ∧
    ∀ i (h : i < l.length), w.cell? ⟨b, off + i * 4, none⟩ = some (.int .i64 l[i].1) ∧ w.cell? ⟨b, off + i * 4 + 1, none⟩ = some (.int .i64 l[i].2.1) ∧ w.cell? ⟨b, off + i * 4 + 2, none⟩ = some (.int .i64 l[i].2.2.1) ∧ w.cell? ⟨b, off + i * 4 + 3, none⟩ = some (slv l[i].2.2.2.1)) ∧
    ∀ x ∈ l, TyV B w x.2.2.2.2 (slv x.2.2.2.1)
/-- Each number is one that an int may be. -/
def BdW (l : List Bnd) : Prop := ∀ x ∈ l, (Lit.int .i64 x.1).wf = true ∧ (Lit.int .i64 x.2.2.1).wf = true ∧ x.2.2.2.2.wf
theorem BdV.keep {B B' : Nat} {w w' : World} {l : List Bnd} {v : Value} (h : BdV B w l v) (hB : B ≤ B') (hk : ∀ b off, b < B → w'.cell? ⟨b, off, none⟩ = w.cell? ⟨b, off, none⟩) : BdV B' w' l v := by
  obtain ⟨A, c, hv, h1, h2⟩ := h
  refine ⟨A, c, hv, fun hn => ?_, fun x hx => (h2 x hx).keep hB hk⟩
  obtain ⟨b, off, hA, hb, hc, hm, hat⟩ := h1 hn
  exact ⟨b, off, hA, by omega, hc, hm, fun i hi => ⟨(hk _ _ hb).trans (hat i hi).1, (hk _ _ hb).trans (hat i hi).2.1, (hk _ _ hb).trans (hat i hi).2.2.1, (hk _ _ hb).trans (hat i hi).2.2.2⟩⟩
theorem BdV.below {B : Nat} {w w' : World} {l : List Bnd} {v : Value} (h : BdV B w l v) (hb : Below B w w') : BdV B w' l v := h.keep (Nat.le_refl _) fun b off hlt => hb.cell (p := ⟨b, off, none⟩) hlt
/-- .. told of a later world's own size. -/
theorem BdV.later {w w' : World} {l : List Bnd} {v : Value} (h : BdV w.heap.size w l v) (hb : Below w.heap.size w w') : BdV w'.heap.size w' l v := h.keep hb.size fun b off hlt => hb.cell (p := ⟨b, off, none⟩) hlt
theorem TyV.later {w w' : World} {f : Fo} {v : Value} (h : TyV w.heap.size w f v) (hb : Below w.heap.size w w') : TyV w'.heap.size w' f v := h.keep hb.size fun b off hlt => hb.cell (p := ⟨b, off, none⟩) hlt
theorem BdV.form {B : Nat} {w : World} {l : List Bnd} {v : Value} (h : BdV B w l v) : ∃ A c, v = .slice A l.length c := by obtain ⟨A, c, hv, _⟩ := h; exact ⟨A, c, hv⟩
/-- A place's cells. -/
theorem BdV.at {B : Nat} {w : World} {l : List Bnd} {A : Option Addr} {n c : Nat} (h : BdV B w l (.slice A n c)) (j : Nat) (hj : j < l.length) : ∃ b off, A = some ⟨b, off, none⟩ ∧ b < B ∧
    w.cell? ⟨b, off + j * 4, none⟩ = some (.int .i64 l[j].1) ∧ w.cell? ⟨b, off + j * 4 + 1, none⟩ = some (.int .i64 l[j].2.1) ∧ w.cell? ⟨b, off + j * 4 + 2, none⟩ = some (.int .i64 l[j].2.2.1) ∧ w.cell? ⟨b, off + j * 4 + 3, none⟩ = some (slv l[j].2.2.2.1) := by
  obtain ⟨A', c', hv, h1, _⟩ := h
  injection hv with e1 e2 e3
  obtain ⟨b, off, hA, hb, _, _, hat⟩ := h1 (by omega)
  exact ⟨b, off, by rw [e1, hA], hb, hat j hj⟩
set_option maxRecDepth 100000 in
theorem binds_read {H : Type} {enc : TypeId × Value → H} {W : World} (fuel : Nat) (v : Value) (x : DataW H × List MemPlace) (h : DataW.trod enc Tryd.prog W 0 (fun _ => true) true fuel 22 [v] = some x) : ∃ (l : List Bnd), BdV W.heap.size W l v ∧ BdW l := by
  rcases DataW.trod_slice Tryd.underlying22 h with ⟨hcs, _⟩ | ⟨a, len, cap, elems, rest, n, hfu, hcs, _, _, hl, hm, hlen, hel, _, _⟩
  · simp at hcs
    subst hcs
    exact ⟨[], ⟨none, 0, rfl, fun h => by simp at h, fun x hx => by cases hx⟩, fun x hx => by cases hx⟩
  · simp at hcs
    subst hcs
    have hC : Tryd.prog.cellsOf 49 = 4 := by kernel_rfl
    have hT : Tryd.prog.cellsOf 25 = 3 := by kernel_rfl
    have hI : Tryd.prog.cellsOf 3 = 1 := by kernel_rfl
    have hS : Tryd.prog.cellsOf 23 = 1 := by kernel_rfl
    rw [hC] at hel
    have key : ∀ i, i < len → ∃ t : Bnd, W.cell? (a.add (i * 4)) = some (.int .i64 t.1) ∧ W.cell? ((a.add (i * 4)).add 1) = some (.int .i64 t.2.1) ∧ W.cell? ((a.add (i * 4)).add 2) = some (.int .i64 t.2.2.1) ∧ W.cell? ((a.add (i * 4)).add 3) = some (slv t.2.2.2.1) ∧ TyV W.heap.size W t.2.2.2.2 (slv t.2.2.2.1) ∧ (Lit.int .i64 t.1).wf = true ∧ (Lit.int .i64 t.2.2.1).wf = true ∧ t.2.2.2.2.wf := by
      intro i hil
      have he := hel i hil
      rw [List.getElem?_eq_getElem (by omega)] at he
      obtain ⟨cs', hc, ht'⟩ := Option.bind_eq_some_iff.1 he
      obtain ⟨ys, n', hn', _, hlen2, hyl, hfld⟩ := DataW.trod_struct Tryd.underlying49 ht'
      rw [hC] at hlen2
      obtain ⟨_, hcl, hat⟩ := World.cells?_some hc
      have q0 : DataW.trod enc Tryd.prog W 0 (fun _ => true) true n' 3 ((cs'.drop 0).take (Tryd.prog.cellsOf 3)) = ys[0]? := hfld 0 _ rfl
      have q1 : DataW.trod enc Tryd.prog W 0 (fun _ => true) true n' 25 ((cs'.drop 1).take (Tryd.prog.cellsOf 25)) = ys[1]? := hfld 1 _ rfl
      have hyl' : ys.length = 2 := hyl
      rw [hI, List.getElem?_eq_getElem (by omega)] at q0
      rw [hT, List.getElem?_eq_getElem (by omega)] at q1
      obtain ⟨k0, hk0, _, hw0⟩ := DataW.trod_int Tryd.underlying3 q0
      match cs', hlen2 with
      | [c0, c1, c2, c3], _ =>
        obtain ⟨zs, n2, hn2, _, hlen3, hzl, hfld2⟩ := DataW.trod_struct Tryd.underlying25 q1
        have p0 : DataW.trod enc Tryd.prog W 0 (fun _ => true) true n2 3 (([c1, c2, c3].drop 0).take (Tryd.prog.cellsOf 3)) = zs[0]? := hfld2 0 _ rfl
        have p1 : DataW.trod enc Tryd.prog W 0 (fun _ => true) true n2 3 (([c1, c2, c3].drop 1).take (Tryd.prog.cellsOf 3)) = zs[1]? := hfld2 1 _ rfl
        have p2 : DataW.trod enc Tryd.prog W 0 (fun _ => true) true n2 23 (([c1, c2, c3].drop 2).take (Tryd.prog.cellsOf 23)) = zs[2]? := hfld2 2 _ rfl
        have hzl' : zs.length = 3 := hzl
        rw [hI, List.getElem?_eq_getElem (by omega)] at p0
        rw [hI, List.getElem?_eq_getElem (by omega)] at p1
        rw [hS, List.getElem?_eq_getElem (by omega)] at p2
        obtain ⟨k1, hk1, _, _⟩ := DataW.trod_int Tryd.underlying3 p0
        obtain ⟨k2, hk2, _, hw2⟩ := DataW.trod_int Tryd.underlying3 p1
        obtain ⟨F, u, hu, hF, hFw⟩ := types_read n2 c3 _ p2
        simp at hk0 hk1 hk2
        subst hk0; subst hk1; subst hk2; subst hu
        refine ⟨(k0, k1, k2, u, F), ?_, ?_, ?_, ?_, hF, hw0, hw2, hFw⟩
        · have := hat 0 (by omega)
          simpa [Addr.add] using this
        · exact hat 1 (by omega)
        · exact hat 2 (by omega)
        · exact hat 3 (by omega)
    by_cases h0 : len = 0
    · subst h0
      exact ⟨[], ⟨_, _, rfl, fun h => by simp at h, fun x hx => by cases hx⟩, fun x hx => by cases hx⟩
    · obtain ⟨b, off, spot⟩ := a
      obtain ⟨t0, hc0, _⟩ := key 0 (by omega)
      have hspot : spot = none := by simpa [Addr.add] using World.cell?_spot hc0
      subst hspot
      have hb : b < W.heap.size := by simpa [Addr.add] using World.block_lt_of_cell? _ _ hc0
      obtain ⟨ts, htl, hP⟩ := listOf _ len key
      subst htl
      simp only [Addr.add_lit] at hP
      refine ⟨ts, ⟨_, _, rfl, fun _ => ⟨b, off, rfl, hb, hl, hm, fun i hi => ⟨(hP i hi).1, (hP i hi).2.1, (hP i hi).2.2.1, (hP i hi).2.2.2.1⟩⟩, fun x hx => ?_⟩, fun x hx => ?_⟩
      · obtain ⟨i, hi, rfl⟩ := List.mem_iff_getElem.1 hx
        exact (hP i hi).2.2.2.2.1
      · obtain ⟨i, hi, rfl⟩ := List.mem_iff_getElem.1 hx
        exact (hP i hi).2.2.2.2.2
theorem ArgB_open {H : Type} {enc : TypeId × Value → H} {W : World} {v : Value} {d : DataW H} {p : List MemPlace}
    (h : DataW.Trod enc Tryd.prog W 0 (fun _ => true) true 22 v d p) (hc : v.cells = #[v]) : ∃ l, BdV W.heap.size W l v ∧ BdW l := by
  obtain ⟨fuel, hf⟩ := h
  rw [hc] at hf
  exact binds_read fuel v _ hf
end Go.Proofs.YtifdbmdfkhnojaaDoor
/- slices.Backward at binds: the last first, each with its place. -/
namespace Go.Proofs.YtifdbmdfkhnojaaDoor
open Go.RowKit Go.Shelf
attribute [local go_sem] Oper.semAt_some
/-- A bind whose variable is a number that an int may be. -/
abbrev BndW := {b : Bnd // (Lit.int .i64 b.1).wf = true}
theorem bndw (l : List Bnd) (h : BdW l) : ∃ L : List BndW, L.map (·.1) = l := by
  induction l with
  | nil => exact ⟨[], rfl⟩
  | cons b l ih =>
    obtain ⟨L, rfl⟩ := ih fun x hx => h x (List.mem_cons_of_mem _ hx)
    exact ⟨⟨b, (h b List.mem_cons_self).1⟩ :: L, rfl⟩
set_option maxRecDepth 100000 in
set_option maxHeartbeats 2000000 in
/-- slices.Backward's closure: the last first, each with its place. -/
theorem bback1 (n : Nat) (hn : 1 ≤ n) (l Bs B : Nat) (A : Option Addr) (c : Nat) (L : List BndW) (hL : L.length ≤ 1000000) (J Jx : List (Int × BndW) → World → Prop)
    (hY : ∀ pre x W, J pre W → pre.length < L.length → YieldAt Fence.wide (n - 1) Tryd.prog l #[.int .i64 x.1, bdV x.2.1] W fun e W' =>
      (e = .returned (.bool true) ∧ J (pre ++ [x]) W' ∧ KpB B Bs W W') ∨ (e = .returned (.bool false) ∧ Jx (pre ++ [x]) W'))
    (W : World) (hBs : Boxed W Bs 22 (.slice A L.length c)) (hR : BdV B W (L.map (·.1)) (.slice A L.length c)) (h0 : J [] W) :
    CallsIn Fence.wide n Tryd.prog 72 #[.func (.yield l) #[] #[], .pointer (some ⟨Bs, 0, none⟩)] W fun e W' => (∃ v, e = .returned v) ∧
      ((∃ ys : List (Int × BndW), ys.map (·.2) = L.reverse ∧ J ys W') ∨ (∃ pre, Jx pre W')) := by
  refine callsIn_of_wp Tryd.func72 rfl trivial ?_ rfl
  simp only [Tryd.ntmps72, List.size_toArray, List.length_cons, List.length_nil, Nat.reduceAdd, Nat.reduceSub, Array.replicate_succ, Array.replicate_zero, List.push_toArray, List.append_toArray, List.nil_append, List.cons_append]
  have e00 : W.cell? ⟨Bs, 0, none⟩ = some (.slice A L.length c) := hBs.cell
  have HBS := Lib.hid hBs
  clear hBs
  gi_wp2
  gi_loopw [3] (fun i wr => ∃ (k : Nat) (z : Int) (pre : List (Int × BndW)), k ≤ L.length ∧ i = .int .i64 z ∧ z + 1 = k ∧ pre.map (·.2) = (L.drop k).reverse ∧ J pre wr ∧ Below B W wr ∧ Boxed wr Bs 22 (.slice A L.length c))
    (fun i _ => (intOf i + 1).toNat)
  case atStart => exact ⟨L.length, _, [], Nat.le_refl _, rfl, by omega, by simp, h0, Below.refl _ _, HBS.out⟩
  case round =>
    obtain ⟨k, z, pre, hk, rfl, hz, hpre, hJs, hnx, hbx⟩ := hrel
    have e0 : wr.cell? ⟨Bs, 0, none⟩ = some (.slice A L.length c) := hbx.cell
    have HBX := Lib.hid hbx
    clear hbx
    by_cases hk0 : 1 ≤ k
    · obtain ⟨b, off, rfl, hlt, c0, c1, c2, c3⟩ := (hR.below hnx).at (k - 1) (by rw [List.length_map]; omega)
      simp only [List.getElem_map] at c0 c1 c2 c3
      have hdrop : L.drop (k - 1) = L[k - 1] :: L.drop k := by
        have := List.drop_eq_getElem_cons (l := L) (i := k - 1) (by omega)
        rwa [show k - 1 + 1 = k by omega] at this
      have hpl : pre.length + k = L.length := by
        have : (pre.map (·.2)).length = pre.length := by simp
        rw [hpre] at this
        simp at this
        omega
      obtain ⟨x, hx⟩ : ∃ x, L[k - 1] = x := ⟨_, rfl⟩
      rw [hx] at c0 c1 c2 c3 hdrop
      obtain ⟨⟨x1, x2, x3, x4, x5⟩, xw⟩ := x
      dsimp only [slv] at c0 c1 c2 c3
      obtain ⟨fn, tmps, assign, body, hy, hR2⟩ := hY pre (z, ⟨(x1, x2, x3, x4, x5), xw⟩) wr hJs (by omega)
      dsimp only [bdV, slv] at hy
      have f1 : (0 : Int) ≤ z := by omega
      have f2 : z < (L.length : Int) := by omega
      have f3 : z.toNat = k - 1 := by omega
      have f4 : decide ((0 : Int) ≤ z) = true := decide_eq_true f1
      have HZ := Lib.hid hz
      have HP := Lib.hid hpre
      have HD := Lib.hid hdrop
      clear hz hpre hdrop hx hpl
      gi_wp2
      refine hR2.mono ?_
      rintro e W3 (⟨rfl, hJ3, hk3⟩ | ⟨rfl, hJx3⟩)
      · gi_wp2
        go_roundw
        case rel => exact ⟨k - 1, z - 1, pre ++ [(z, ⟨(x1, x2, x3, x4, x5), xw⟩)], by omega, by go_num, by have := HZ.out; omega, by simp [HP.out, HD.out], hJ3, hnx.trans hk3.below, hk3.boxed HBX.out⟩
        case measure => simp [intOf]; omega
      · gi_wp2
        refine bodyPost_ret (results_none rfl _ _ _) rfl ?_
        exact ⟨⟨_, rfl⟩, .inr ⟨_, hJx3⟩⟩
    · obtain rfl : k = 0 := by omega
      have f1 : ¬ (0 : Int) ≤ z := by omega
      have f4 : decide ((0 : Int) ≤ z) = false := decide_eq_false f1
      have HP := Lib.hid hpre
      clear hz hpre
      gi_wp2
      go_end0
      exact ⟨⟨_, rfl⟩, .inl ⟨pre, by simpa using HP.out, hJs⟩⟩
set_option maxHeartbeats 1000000 in
/-- slices.Backward at binds: the slice is boxed, the function that comes has the box. -/
theorem bback_make (A : Option Addr) (n c : Nat) (w : World) :
    Calls Tryd.prog 58 #[.slice A n c] w fun e w' => e = .returned (.func (.func 72) #[] #[.pointer (some ⟨w.heap.size, 0, none⟩)]) ∧ w' = w.alloc (.cells #[.slice A n c] 22) := by
  go_enter Tryd.func58, Tryd.ntmps58
  go_wp2
  go_ret
  exact ⟨rfl, rfl⟩
theorem bback_stops (n : Nat) (hn : 1 ≤ n) (Bs B : Nat) (A : Option Addr) (c : Nat) (L : List BndW) (hL : L.length ≤ 1000000) (w : World) (hBw : B ≤ w.heap.size) (hBs : Boxed w Bs 22 (.slice A L.length c)) (hR : BdV B w (L.map (·.1)) (.slice A L.length c)) :
    SeqStopsK Fence.wide n Tryd.prog 72 #[.pointer (some ⟨Bs, 0, none⟩)] (fun x : Int × BndW => #[Value.int .i64 x.1, bdV x.2.1]) (KpB B Bs) (fun ys => ys.map (·.2) = L.reverse) (fun _ => True) L.length w := fun l J Jx W hW _ _ hY h0 => by
  have hbs : Boxed W Bs 22 (.slice A L.length c) := (hW.block Bs hBs.lt).trans hBs
  refine (bback1 n hn l Bs B A c L hL J Jx hY W hbs (hR.below (hW.mono hBw)) h0).mono ?_
  rintro e W' ⟨he, ⟨ys, hy, hj⟩ | ⟨pre, hj⟩⟩
  · exact ⟨he, .inl ⟨ys, hy, hj⟩⟩
  · exact ⟨he, .inr ⟨pre, trivial, hj⟩⟩
end Go.Proofs.YtifdbmdfkhnojaaDoor
/- subst.byVar. -/
namespace Go.Proofs.YtifdbmdfkhnojaaDoor
open Go.RowKit Go.Shelf Go.Maps Go.WideShapes
attribute [local go_sem] Oper.semAt_some
/-- The types of the binds that count, by their variables. -/
def mv (l : List Bnd) : Int → Option Value := fun v => (fnd l v).map bdT
theorem mv_cons (b : Bnd) (l : List Bnd) : mv (b :: l) = upd (mv l) b.1 (bdT b) := by
  funext m
  simp only [mv, fnd, upd]
  by_cases h : m = b.1
  · subst h; simp
  · simp [h, Ne.symm h]
theorem bindsTy : MapTy 56 25 (tyVal 0 0 (.slice none 0 0)) := ⟨Tryd.underlying56, fun w => by kernel_rfl⟩
/-- Between two rounds. -/
def ByInv (w : World) (b3 bm : Nat) (pre : List (Int × BndW)) (W : World) : Prop :=
  Boxed W b3 56 (.map (some bm)) ∧ MapF (mv (pre.map (·.2.1)).reverse) (cnt (pre.map (·.2.1)).reverse).length pre.length bm W ∧ Below w.heap.size w W
theorem ByInv.own {w : World} {b3 bm B : Nat} (hB : w.heap.size ≤ B) (hbm : bm < B) : OwnFrom B (ByInv w b3 bm) := by
  rintro pre W W' row ⟨h3, h4, h5⟩ hg hr
  have nb : ∀ {b : Nat} {t : TypeId} {u : Value}, Boxed W b t u → some b ≠ row := fun hb e => by
    obtain ⟨_, o, ho, hc⟩ := hr _ e.symm
    rw [show W.heap[_]? = _ from hb] at ho; cases ho; cases hc
  exact ⟨h3.kept hg (nb h3), h4.kept hg (fun e => by have := (hr _ e.symm).1; omega), h5.trans ((Below.refl _ _).grown hg h5.size (fun k e => by have := (hr k e).1; omega))⟩
set_option maxRecDepth 100000 in
set_option maxHeartbeats 2000000 in
theorem byvar_any (w : World) (B : Nat) (l : List Bnd) (v : Value) (hB : B ≤ w.heap.size) (hl : BdV B w l v) (hw : BdW l) (hs : l.length ≤ 100000) :
    Calls Tryd.prog 35 #[v] w fun e w' => ∃ bm, e = .returned (.map (some bm)) ∧ w.heap.size ≤ bm ∧ MapF (mv l) (cnt l).length l.length bm w' ∧ Below w.heap.size w w' := by
  obtain ⟨L, rfl⟩ := bndw l hw
  rw [List.length_map] at hs
  obtain ⟨A, c, rfl⟩ := hl.form
  rw [List.length_map] at hl ⊢
  refine (callsIn_wide (n := 4)).1 ?_
  refine callsIn_of_wp_marks Tryd.func35 rfl trivial ?_ rfl
  simp only [Tryd.ntmps35, List.size_toArray, List.length_cons, List.length_nil, Nat.reduceAdd, Nat.reduceSub, Array.replicate_succ, Array.replicate_zero, List.push_toArray, List.append_toArray, List.nil_append, List.cons_append]
  have hmm := @run_makeMap Tryd.prog
  gi_wp2_with (refine ⟨trivial, ?_⟩; gi_at_call 58; refine (callsIn_wide.2 (bback_make A L.length c _)).mono ?_; rintro e w' ⟨rfl, rfl⟩)
  obtain ⟨w4, hw4⟩ : ∃ w4, ((w.alloc (Obj.map #[] 0)).alloc (Obj.cells #[.map (some w.heap.size)] 56)).alloc (Obj.cells #[.slice A L.length c] 22) = w4 := ⟨_, rfl⟩
  have hs4 : w4.heap.size = w.heap.size + 3 := by rw [← hw4]; simp
  have hb4 : Below w.heap.size w w4 := by rw [← hw4]; exact (((Below.refl _ w).alloc (Nat.le_refl _) _).alloc (by simp) _).alloc (by simp only [World.size_alloc]; omega) _
  have k1 : MapF (fun _ => none) 0 0 w.heap.size w4 := by
    rw [← hw4]
    exact ((MapF.made w).kept (World.grownBy_alloc _ _ none) (by simp)).kept (World.grownBy_alloc _ _ none) (by simp)
  have k2 : Boxed w4 (w.heap.size + 1) 56 (.map (some w.heap.size)) := by
    rw [← hw4]
    refine (Below.heap_alloc _ _ _ (by simp only [World.size_alloc]; omega)).trans ?_
    have := heap_alloc_new (w.alloc (Obj.map #[] 0)) (Obj.cells #[.map (some w.heap.size)] 56)
    simp only [World.size_alloc] at this
    exact this
  have k3 : Boxed w4 (w.heap.size + 1 + 1) 22 (.slice A L.length c) := by
    rw [← hw4]
    have := heap_alloc_new ((w.alloc (Obj.map #[] 0)).alloc (Obj.cells #[.map (some w.heap.size)] 56)) (Obj.cells #[.slice A L.length c] 22)
    simp only [World.size_alloc] at this
    exact this
  have hR4 : BdV B w4 (L.map (·.1)) (.slice A L.length c) := hl.below (hb4.mono hB)
  have hinv : ByInv w (w.heap.size + 1) w.heap.size [] w4 := ⟨k2, k1, hb4⟩
  rw [hw4]
  clear hw4 hmm k1 k2
  refine wpIn_rangeFunc_ownH rfl (by omega) (gf := 72) (lb := #[.pointer (some ⟨w.heap.size + 1 + 1, 0, none⟩)]) rfl trivial (enters_of Tryd.func72 (by kernel_rfl) rfl)
    (bback_stops 3 (by omega) (w.heap.size + 1 + 1) B A c L (by omega) w4 (by omega) k3 hR4) KpB.t (KpB.b (by omega)) (Below.refl _ _) (fun _ => rfl)
    (ByInv w (w.heap.size + 1) w.heap.size) (fun _ _ _ => False)
    (ByInv.own (by omega) (by omega)) (fun _ _ _ _ _ hs _ _ => hs)
    hinv
    (fun x a' W => ∃ Bx, (W.cell? ⟨Bx, 0, none⟩ = some (.int .i64 x.2.1.1) ∧ W.cell? ⟨Bx, 1, none⟩ = some (.int .i64 x.2.1.2.1) ∧ W.cell? ⟨Bx, 2, none⟩ = some (.int .i64 x.2.1.2.2.1) ∧ W.cell? ⟨Bx, 3, none⟩ = some (slv x.2.1.2.2.2.1)) ∧ a' = { tmps := #[.slice A L.length c, undef, .map none, .pointer (some ⟨w.heap.size + 1, 0, none⟩), undef, .pointer (some ⟨Bx, 0, none⟩), .map (some w.heap.size), .slice A L.length c, .func (.func 72) #[] #[.pointer (some ⟨w.heap.size + 1 + 1, 0, none⟩)], .int .i64 x.1, bdV x.2.1, undef, undef, undef, undef, undef, undef], defers := [] })
    (fun x a' s W W' row hs hg hr => by
      obtain ⟨Bx, ⟨c0, c1, c2, c3⟩, ha⟩ := hs
      exact ⟨Bx, ⟨cell_kept c0 hg (fun r e => (hr r e).2), cell_kept c1 hg (fun r e => (hr r e).2), cell_kept c2 hg (fun r e => (hr r e).2), cell_kept c3 hg (fun r e => (hr r e).2)⟩, ha⟩) ?assign ?body ?done ?stop
  case assign =>
    rintro l pre x W K hi hK
    obtain ⟨x0, ⟨x1, x2, x3, ⟨A3, n3, c3⟩, x5⟩, xw⟩ := x
    dsimp only [bdV, slv] at hK ⊢
    have HI := Lib.hid hi
    have hsz := hi.2.2.size
    clear hi
    gi_wp2
    exact hK _ _ ((KeepsOthers.alloc _ _).from _) ⟨(Below.refl B W).alloc (by omega) _, fun o ho _ => (Below.heap_alloc _ _ _ (Array.getElem?_eq_some_iff.1 ho).1).trans ho⟩ ((ByInv.own (B := w4.heap.size) (by omega) (by omega)).alloc _ HI.out) ⟨W.heap.size, ⟨by go_simp, by go_simp, by go_simp, by go_simp⟩, rfl⟩
  case body =>
    rintro l pre x a' W hl ⟨r, hr⟩ hi ⟨Bx, ⟨x0, x1, x2, x3⟩, rfl⟩ hlt
    obtain ⟨y0, ⟨y1, y2, y3, ⟨A3, n3, c3⟩, y5⟩, yw⟩ := x
    dsimp only [bdV, slv] at x0 x1 x2 x3 yw ⊢
    obtain ⟨h3, h4, h5⟩ := hi
    obtain ⟨W1, run1, m1, g1, o1, s1⟩ := h4.put bindsTy (by omega) y1 yw (bdT (y1, y2, y3, (A3, n3, c3), y5))
    dsimp only [bdT, tyVal, slv] at run1
    have b3c := h3.cell
    have hbl := h5.size
    have hmb : ∃ es ck, W.heap[w.heap.size]? = some (Obj.map es ck) := by obtain ⟨_, _, ⟨es, ck, hm, _⟩, _⟩ := h4; exact ⟨es, ck, hm⟩
    have fin : KeepsFrom w4.heap.size W W1 ∧ KpB B (w.heap.size + 1 + 1) W W1 ∧ ByInv w (w.heap.size + 1) w.heap.size (pre ++ [(y0, ⟨(y1, y2, y3, (A3, n3, c3), y5), yw⟩)]) W1 := by
      refine ⟨⟨by omega, fun j o hj ho hc => (o1 j (by omega)).trans ho⟩, ⟨⟨g1.os, g1.tape, g1.output, by omega, fun j hj => o1 j (by omega)⟩, fun o ho hc => (o1 _ (by omega)).trans ho⟩, h3.kept g1 (by simp), ?_, h5.trans ((Below.refl _ _).grown g1 hbl (fun k e => by cases e; omega))⟩
      have e1 : ((pre ++ [(y0, (⟨(y1, y2, y3, (A3, n3, c3), y5), yw⟩ : BndW))]).map (·.2.1)).reverse = (y1, y2, y3, (A3, n3, c3), y5) :: (pre.map (·.2.1)).reverse := by simp
      rw [e1, mv_cons, cnt_cons_len, List.length_append]
      have e2 : (mv (pre.map (·.2.1)).reverse y1).isSome = (fnd (pre.map (·.2.1)).reverse y1).isSome := by simp [mv]
      rw [e2] at m1
      exact m1
    have FIN := Lib.hid fin
    clear fin m1 g1 o1 s1 h3 h4 h5 hmb hinv hR4
    gi_wp2
    exact FIN.out
  case done =>
    rintro D ys W hD hys ⟨h3, h4, h5⟩ hK
    have hl1 : (ys.map (·.2.1)).reverse = L.map (·.1) := by
      have : ys.map (·.2.1) = (ys.map (·.2)).map (·.1) := by simp
      rw [this, hys]; simp
    have hl2 : ys.length = L.length := by
      have := congrArg List.length hys
      simpa using this
    rw [hl1, hl2] at h4
    have bc := h3.cell
    have H3 := Lib.hid h3
    have H4 := Lib.hid h4
    have H5 := Lib.hid h5
    clear h3 h4 h5 hinv
    gi_wp2
    refine ⟨by simp, .inl ⟨_, _, rfl, run_takeDeferred hK, ?_⟩⟩
    have hgp := grownBy_putObj' W D (.deferred none)
    have hne : some w.heap.size ≠ some D := by intro e; injection e with e; omega
    exact ⟨_, results_tmp rfl _ _ _, _, rfl, Nat.le_refl _, H4.out.kept hgp hne, H5.out.trans ((Below.refl _ _).grown hgp H5.out.size (fun k e => by cases e; omega))⟩
  case stop =>
    rintro D c pre W _ _ h _
    exact h.elim
end Go.Proofs.YtifdbmdfkhnojaaDoor
