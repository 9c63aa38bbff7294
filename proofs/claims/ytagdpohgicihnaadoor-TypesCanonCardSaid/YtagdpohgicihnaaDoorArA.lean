/- slices.Backward at types: what may come next is known; and the arrows' plain facts. -/
import Derived.Test.YtagdpohgicihnaaDoorRg
import Derived.Test.YtagdpohgicihnaaDoorTyC
import Derived.Test.YtagdpohgicihnaaDoorChD
namespace Go.Proofs.YtagdpohgicihnaaDoor
open Go.RowKit Go.Shelf
attribute [local go_sem] Oper.semAt_some

/-- What comes behind these: the next from the end, with its place. -/
def NextB (L : List Tr) (pre : List (Int × Tr)) (x : Int × Tr) : Prop := ∃ _ : pre.length < L.length, x = (((L.length - 1 - pre.length : Nat) : Int), L[L.length - 1 - pre.length])
set_option maxRecDepth 100000 in
set_option maxHeartbeats 2000000 in
/-- slices.Backward's closure: the last first, each with its place. -/
theorem back1G (n : Nat) (hn : 1 ≤ n) (l Bs B : Nat) (A : Option Addr) (c : Nat) (L : List Tr) (hL : L.length ≤ 1000000) (J Jx : List (Int × Tr) → World → Prop)
    (hY : ∀ pre x W, J pre W → NextB L pre x → YieldAt Fence.wide (n - 1) Tryd.prog l #[.int .i64 x.1, trV x.2] W fun e W' =>
      (e = .returned (.bool true) ∧ J (pre ++ [x]) W' ∧ KpB B Bs W W') ∨ (e = .returned (.bool false) ∧ Jx (pre ++ [x]) W'))
    (W : World) (hBs : Boxed W Bs 22 (.slice A L.length c)) (hR : RdX B W (.slice A L.length c) L) (h0 : J [] W) :
    CallsIn Fence.wide n Tryd.prog 67 #[.func (.yield l) #[] #[], .pointer (some ⟨Bs, 0, none⟩)] W fun e W' => (∃ v, e = .returned v) ∧
      ((∃ ys : List (Int × Tr), ys.map (·.2) = L.reverse ∧ J ys W') ∨ (∃ pre, Jx pre W')) := by
  refine callsIn_of_wp Tryd.func67 rfl trivial ?_ rfl
  simp only [Tryd.ntmps67, List.size_toArray, List.length_cons, List.length_nil, Nat.reduceAdd, Nat.reduceSub, Array.replicate_succ, Array.replicate_zero, List.push_toArray, List.append_toArray, List.nil_append, List.cons_append]
  have e00 : W.cell? ⟨Bs, 0, none⟩ = some (.slice A L.length c) := hBs.cell
  have HBS := Lib.hid hBs
  clear hBs
  gi_wp2
  gi_loopw [3] (fun i wr => ∃ (k : Nat) (z : Int) (pre : List (Int × Tr)), k ≤ L.length ∧ i = .int .i64 z ∧ z + 1 = k ∧ pre.map (·.2) = (L.drop k).reverse ∧ J pre wr ∧ Below B W wr ∧ Boxed wr Bs 22 (.slice A L.length c))
    (fun i _ => (intOf i + 1).toNat)
  case atStart => exact ⟨L.length, _, [], Nat.le_refl _, rfl, by omega, by simp, h0, Below.refl _ _, HBS.out⟩
  case round =>
    obtain ⟨k, z, pre, hk, rfl, hz, hpre, hJs, hnx, hbx⟩ := hrel
    have e0 : wr.cell? ⟨Bs, 0, none⟩ = some (.slice A L.length c) := hbx.cell
    have HBX := Lib.hid hbx
    clear hbx
    by_cases hk0 : 1 ≤ k
    · obtain ⟨A', c', hv, hf⟩ := hR.below hnx
      injection hv with hv1 _ hv3
      subst hv1; subst hv3
      obtain ⟨b, off, rfl, hlt, hc⟩ := hf (by omega)
      obtain ⟨c0, c1, c2⟩ := hc (k - 1) (by omega)
      have hdrop : L.drop (k - 1) = L[k - 1] :: L.drop k := by
        have := List.drop_eq_getElem_cons (l := L) (i := k - 1) (by omega)
        rwa [show k - 1 + 1 = k by omega] at this
      have hpl : pre.length < L.length := by
        have : (pre.map (·.2)).length = pre.length := by simp
        rw [hpre] at this
        simp at this
        omega
      have hnb : NextB L pre (z, L[k - 1]) := by
        have hpl2 : pre.length = L.length - k := by
          have : (pre.map (·.2)).length = pre.length := by simp
          rw [hpre] at this
          simp at this
          omega
        refine ⟨hpl, ?_⟩
        have e : L.length - 1 - pre.length = k - 1 := by omega
        rw [Prod.mk.injEq]
        exact ⟨by omega, by simp only [e]⟩
      obtain ⟨x, hx⟩ : ∃ x, L[k - 1] = x := ⟨_, rfl⟩
      rw [hx] at c0 c1 c2 hdrop hnb
      obtain ⟨x1, x2, x3⟩ := x
      dsimp only [slv] at c2
      obtain ⟨fn, tmps, assign, body, hy, hR2⟩ := hY pre (z, x1, x2, x3) wr hJs hnb
      dsimp only [trV, slv] at hy
      have f1 : (0 : Int) ≤ z := by omega
      have f2 : z < (L.length : Int) := by omega
      have f3 : z.toNat = k - 1 := by omega
      have f4 : decide ((0 : Int) ≤ z) = true := decide_eq_true f1
      have HZ := Lib.hid hz
      have HP := Lib.hid hpre
      have HD := Lib.hid hdrop
      clear hz hpre hdrop hx hc hf hpl hnb
      gi_wp2
      refine hR2.mono ?_
      rintro e W3 (⟨rfl, hJ3, hk3⟩ | ⟨rfl, hJx3⟩)
      · gi_wp2
        go_roundw
        case rel => exact ⟨k - 1, z - 1, pre ++ [(z, x1, x2, x3)], by omega, by go_num, by have := HZ.out; omega, by simp [HP.out, HD.out], hJ3, hnx.trans hk3.below, hk3.boxed HBX.out⟩
        case measure => simp [intOf]; omega
      · gi_wp2
        refine bodyPost_ret (results_none rfl _ _ _) rfl ?_
        exact ⟨⟨_, rfl⟩, .inr ⟨_, hJx3⟩⟩
    · obtain rfl : k = 0 := by omega
      have f1 : ¬ (0 : Int) ≤ z := by omega
      have f4 : decide ((0 : Int) ≤ z) = false := decide_eq_false f1
      have HP := Lib.hid hpre
      clear hz hpre
      gi_wp2
      go_end0
      exact ⟨⟨_, rfl⟩, .inl ⟨pre, by simpa using HP.out, hJs⟩⟩
theorem back_seqG (n : Nat) (hn : 1 ≤ n) (Bs B : Nat) (t : TypeId) (A : Option Addr) (c : Nat) (L : List Tr) (hL : L.length ≤ 1000000) (w : World) (hBw : B ≤ w.heap.size) (hBs : Boxed w Bs 22 (.slice A L.length c)) (hR : RdX B w (.slice A L.length c) L) :
    SeqG n Tryd.prog 67 #[.pointer (some ⟨Bs, 0, none⟩)] t (fun x : Int × Tr => #[Value.int .i64 x.1, trV x.2]) (KpB B Bs) (fun ys => ys.map (·.2) = L.reverse) (fun _ => True) (NextB L) w := fun l J Jx W hW _ _ hY h0 => by
  have hbs : Boxed W Bs 22 (.slice A L.length c) := (hW.block Bs hBs.lt).trans hBs
  refine (back1G n hn l Bs B A c L hL J Jx hY W hbs (hR.below (hW.mono hBw)) h0).mono ?_
  rintro e W' ⟨he, ⟨ys, hy, hj⟩ | ⟨pre, hj⟩⟩
  · exact ⟨he, .inl ⟨ys, hy, hj⟩⟩
  · exact ⟨he, .inr ⟨pre, trivial, hj⟩⟩
namespace Fo
/-- The arrow from each to the next one: its kind, its number, its parts. -/
def arrF : Fo → Int × Int × Fo
  | nil => (0, 0, nil)
  | cons k n v ps r => if r.len = 0 then (k, n, ps) else (4, 0, cons k n v ps (cons r.arrF.1 r.arrF.2.1 (none, 0, 0) r.arrF.2.2 nil))
theorem len_drop (f : Fo) (j : Nat) : (f.drop j).len = f.len - j := by
  induction f generalizing j with
  | nil => cases j <;> simp [drop, len]
  | cons k n v ps r _ ih =>
    cases j with
    | zero => simp [drop]
    | succ j => simp [drop, len, ih]
theorem top_get (f : Fo) (j : Nat) (hj : j < f.top.length) : f.top[j] = ((f.at_ j).1, (f.at_ j).2.1, (f.at_ j).2.2.1) := by
  induction f generalizing j with
  | nil => simp [top] at hj
  | cons k n v ps r _ ih =>
    cases j with
    | zero => rfl
    | succ j => simpa [top, at_] using ih j (by simpa [top] using hj)
end Fo
/-- Two types, laid as a list's. -/
theorem FreshT.two {T : TypeId} {B : Nat} {w : World} {psx psy : Fo} {kx nx ky ny : Int} {ux uy vx vy : Sl} (hx : FreshT T B w idn psx ux) (hy : FreshT T B w idn psy uy) (c : Nat) (hB : B ≤ c) (hc : w.heap[c]? = some (Obj.cells #[.int .i64 kx, .int .i64 nx, slv ux, .int .i64 ky, .int .i64 ny, slv uy] T)) :
    FreshT T B w idn (.cons kx nx vx psx (.cons ky ny vy psy .nil)) (some ⟨c, 0, none⟩, 2, 2) := by
  intro W hs hk
  obtain ⟨gx, ix, tx⟩ := hx W hs hk
  obtain ⟨gy, iy, ty⟩ := hy W hs hk
  have hcW := hk c _ hB hc
  have cell := fun j => cell_of_row W c j _ _ (0, 0) hcW
  refine ⟨.cons kx nx ux gx (.cons ky ny uy gy .nil), ⟨rfl, (nm_id _ _).symm, ix, rfl, (nm_id _ _).symm, iy, trivial⟩, tyV_cons.2 ⟨c, 0, 2, rfl, Nat.le_refl _, by unfold maxLen; omega, (Array.getElem?_eq_some_iff.1 hcW).1, tyC_cons.2 ⟨cell 0, cell 1, cell 2, tx, tyC_cons.2 ⟨cell 3, cell 4, cell 5, ty, tyC_nil⟩⟩⟩⟩
end Go.Proofs.YtagdpohgicihnaaDoor
