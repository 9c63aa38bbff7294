/- Texts of one proof, one behind the other. -/
import Derived.Test.YtcaclgaaaanfnaaMgUnifyOrder10
import Derived.Test.YtcaclgaaaanfnaaMgUnifyOrder2
import Derived.Test.YtcaclgaaaanfnaaMgUnifyOrder9
import Derived.Test.YtcaclgaaaanfnaaMgUnifyOrder5
import Derived.Test.YtcaclgaaaanfnaaMgUnifyOrder4
import Derived.Deep.DeepCutAuto
import Derived.Test.YtcaclgaaaanfnaaMgUnifyOrder8
/- slices.Backward at types: what may come next is known; and the arrows' plain facts. -/
namespace Go.Proofs.Ytcaclgaaaanfnaa
open Go.RowKit Go.Shelf
attribute [local go_sem] Oper.semAt_some

/-- What comes behind these: the next from the end, with its place. -/
def NextB (L : List Tr) (pre : List (Int × Tr)) (x : Int × Tr) : Prop := ∃ _ : pre.length < L.length, x = (((L.length - 1 - pre.length : Nat) : Int), L[L.length - 1 - pre.length])
set_option maxRecDepth 100000 in
set_option maxHeartbeats 2000000 in
/-- slices.Backward's closure: the last first, each with its place. -/
theorem back1G (n : Nat) (hn : 1 ≤ n) (l Bs B : Nat) (A : Option Addr) (c : Nat) (L : List Tr) (hL : L.length ≤ 1000000) (J Jx : List (Int × Tr) → World → Prop)
    (hY : ∀ pre x W, J pre W → NextB L pre x → YieldAt Fence.wide (n - 1) Try.prog l #[.int .i64 x.1, trV x.2] W fun e W' =>
      (e = .returned (.bool true) ∧ J (pre ++ [x]) W' ∧ KpB B Bs W W') ∨ (e = .returned (.bool false) ∧ Jx (pre ++ [x]) W'))
    (W : World) (hBs : Boxed W Bs 34 (.slice A L.length c)) (hR : RdX B W (.slice A L.length c) L) (h0 : J [] W) :
    CallsIn Fence.wide n Try.prog 95 #[.func (.yield l) #[] #[], .pointer (some ⟨Bs, 0, none⟩)] W fun e W' => (∃ v, e = .returned v) ∧
      ((∃ ys : List (Int × Tr), ys.map (·.2) = L.reverse ∧ J ys W') ∨ (∃ pre, Jx pre W')) := by
  refine callsIn_of_wp Try.func95 rfl trivial ?_ rfl
  simp only [Try.ntmps95, List.size_toArray, List.length_cons, List.length_nil, Nat.reduceAdd, Nat.reduceSub, Array.replicate_succ, Array.replicate_zero, List.push_toArray, List.append_toArray, List.nil_append, List.cons_append]
  have e00 : W.cell? ⟨Bs, 0, none⟩ = some (.slice A L.length c) := hBs.cell
  have HBS := Lib.hid hBs
  clear hBs
  gi_wp2
  gi_loopw [3] (fun i wr => ∃ (k : Nat) (z : Int) (pre : List (Int × Tr)), k ≤ L.length ∧ i = .int .i64 z ∧ z + 1 = k ∧ pre.map (·.2) = (L.drop k).reverse ∧ J pre wr ∧ Below B W wr ∧ Boxed wr Bs 34 (.slice A L.length c))
    (fun i _ => (intOf i + 1).toNat)
  case atStart => exact ⟨L.length, _, [], Nat.le_refl _, rfl, by omega, by simp, h0, Below.refl _ _, HBS.out⟩
  case round =>
    obtain ⟨k, z, pre, hk, rfl, hz, hpre, hJs, hnx, hbx⟩ := hrel
    have e0 : wr.cell? ⟨Bs, 0, none⟩ = some (.slice A L.length c) := hbx.cell
    have HBX := Lib.hid hbx
    clear hbx
    by_cases hk0 : 1 ≤ k
    · obtain ⟨A', c', hv, hf⟩ := hR.below hnx
      injection hv with hv1 _ hv3
      subst hv1; subst hv3
      obtain ⟨b, off, rfl, hlt, hc⟩ := hf (by omega)
      obtain ⟨c0, c1, c2⟩ := hc (k - 1) (by omega)
      have hdrop : L.drop (k - 1) = L[k - 1] :: L.drop k := by
        have := List.drop_eq_getElem_cons (l := L) (i := k - 1) (by omega)
        rwa [show k - 1 + 1 = k by omega] at this
      have hpl : pre.length < L.length := by
        have : (pre.map (·.2)).length = pre.length := by simp
        rw [hpre] at this
        simp at this
        omega
      have hnb : NextB L pre (z, L[k - 1]) := by
        have hpl2 : pre.length = L.length - k := by
          have : (pre.map (·.2)).length = pre.length := by simp
          rw [hpre] at this
          simp at this
          omega
        refine ⟨hpl, ?_⟩
        have e : L.length - 1 - pre.length = k - 1 := by omega
        rw [Prod.mk.injEq]
        exact ⟨by omega, by simp only [e]⟩
      obtain ⟨x, hx⟩ : ∃ x, L[k - 1] = x := ⟨_, rfl⟩
      rw [hx] at c0 c1 c2 hdrop hnb
      obtain ⟨x1, x2, x3⟩ := x
      dsimp only [slv] at c2
      obtain ⟨fn, tmps, assign, body, hy, hR2⟩ := hY pre (z, x1, x2, x3) wr hJs hnb
      dsimp only [trV, slv] at hy
      have f1 : (0 : Int) ≤ z := by omega
      have f2 : z < (L.length : Int) := by omega
      have f3 : z.toNat = k - 1 := by omega
      have f4 : decide ((0 : Int) ≤ z) = true := decide_eq_true f1
      have HZ := Lib.hid hz
      have HP := Lib.hid hpre
      have HD := Lib.hid hdrop
      clear hz hpre hdrop hx hc hf hpl hnb
      gi_wp2
      refine hR2.mono ?_
      rintro e W3 (⟨rfl, hJ3, hk3⟩ | ⟨rfl, hJx3⟩)
      · gi_wp2
        go_roundw
        case rel => exact ⟨k - 1, z - 1, pre ++ [(z, x1, x2, x3)], by omega, by go_num, by have := HZ.out; omega, by simp [HP.out, HD.out], hJ3, hnx.trans hk3.below, hk3.boxed HBX.out⟩
        case measure => simp [intOf]; omega
      · gi_wp2
        refine bodyPost_ret (results_none rfl _ _ _) rfl ?_
        exact ⟨⟨_, rfl⟩, .inr ⟨_, hJx3⟩⟩
    · obtain rfl : k = 0 := by omega
      have f1 : ¬ (0 : Int) ≤ z := by omega
      have f4 : decide ((0 : Int) ≤ z) = false := decide_eq_false f1
      have HP := Lib.hid hpre
      clear hz hpre
      gi_wp2
      go_end0
      exact ⟨⟨_, rfl⟩, .inl ⟨pre, by simpa using HP.out, hJs⟩⟩
theorem back_seqG (n : Nat) (hn : 1 ≤ n) (Bs B : Nat) (t : TypeId) (A : Option Addr) (c : Nat) (L : List Tr) (hL : L.length ≤ 1000000) (w : World) (hBw : B ≤ w.heap.size) (hBs : Boxed w Bs 34 (.slice A L.length c)) (hR : RdX B w (.slice A L.length c) L) :
    SeqG n Try.prog 95 #[.pointer (some ⟨Bs, 0, none⟩)] t (fun x : Int × Tr => #[Value.int .i64 x.1, trV x.2]) (KpB B Bs) (fun ys => ys.map (·.2) = L.reverse) (fun _ => True) (NextB L) w := fun l J Jx W hW _ _ hY h0 => by
  have hbs : Boxed W Bs 34 (.slice A L.length c) := (hW.block Bs hBs.lt).trans hBs
  refine (back1G n hn l Bs B A c L hL J Jx hY W hbs (hR.below (hW.mono hBw)) h0).mono ?_
  rintro e W' ⟨he, ⟨ys, hy, hj⟩ | ⟨pre, hj⟩⟩
  · exact ⟨he, .inl ⟨ys, hy, hj⟩⟩
  · exact ⟨he, .inr ⟨pre, trivial, hj⟩⟩
namespace Fo
/-- The arrow from each to the next one: its kind, its number, its parts. -/
def arrF : Fo → Int × Int × Fo
  | nil => (0, 0, nil)
  | cons k n v ps r => if r.len = 0 then (k, n, ps) else (4, 0, cons k n v ps (cons r.arrF.1 r.arrF.2.1 (none, 0, 0) r.arrF.2.2 nil))
theorem len_drop (f : Fo) (j : Nat) : (f.drop j).len = f.len - j := by
  induction f generalizing j with
  | nil => cases j <;> simp [drop, len]
  | cons k n v ps r _ ih =>
    cases j with
    | zero => simp [drop]
    | succ j => simp [drop, len, ih]
theorem top_get (f : Fo) (j : Nat) (hj : j < f.top.length) : f.top[j] = ((f.at_ j).1, (f.at_ j).2.1, (f.at_ j).2.2.1) := by
  induction f generalizing j with
  | nil => simp [top] at hj
  | cons k n v ps r _ ih =>
    cases j with
    | zero => rfl
    | succ j => simpa [top, at_] using ih j (by simpa [top] using hj)
end Fo
/-- Two types, laid as a list's. -/
theorem FreshT.two {T : TypeId} {B : Nat} {w : World} {psx psy : Fo} {kx nx ky ny : Int} {ux uy vx vy : Sl} (hx : FreshT T B w idn psx ux) (hy : FreshT T B w idn psy uy) (c : Nat) (hB : B ≤ c) (hc : w.heap[c]? = some (Obj.cells #[.int .i64 kx, .int .i64 nx, slv ux, .int .i64 ky, .int .i64 ny, slv uy] T)) :
    FreshT T B w idn (.cons kx nx vx psx (.cons ky ny vy psy .nil)) (some ⟨c, 0, none⟩, 2, 2) := by
  intro W hs hk
  obtain ⟨gx, ix, tx⟩ := hx W hs hk
  obtain ⟨gy, iy, ty⟩ := hy W hs hk
  have hcW := hk c _ hB hc
  have cell := fun j => cell_of_row W c j _ _ (0, 0) hcW
  refine ⟨.cons kx nx ux gx (.cons ky ny uy gy .nil), ⟨rfl, (nm_id _ _).symm, ix, rfl, (nm_id _ _).symm, iy, trivial⟩, tyV_cons.2 ⟨c, 0, 2, rfl, Nat.le_refl _, by unfold maxLen; omega, (Array.getElem?_eq_some_iff.1 hcW).1, tyC_cons.2 ⟨cell 0, cell 1, cell 2, tx, tyC_cons.2 ⟨cell 3, cell 4, cell 5, ty, tyC_nil⟩⟩⟩⟩
end Go.Proofs.Ytcaclgaaaanfnaa
/- slices.Backward at types, while some blocks turn and some stay: what stays is told by the blocks. -/
namespace Go.Proofs.Ytcaclgaaaanfnaa
open Go.RowKit Go.Shelf
attribute [local go_sem] Oper.semAt_some
/-- The cells of these blocks stay. -/
def KpS (S : Nat → Prop) (W W' : World) : Prop := ∀ b, S b → ∀ o, W.heap[b]? = some o → o.isCells = true → W'.heap[b]? = some o
theorem KpS.refl (S : Nat → Prop) (W : World) : KpS S W W := fun _ _ _ h _ => h
theorem KpS.t {S : Nat → Prop} {X Y Z : World} (h : KpS S X Y) (k : KpS S Y Z) : KpS S X Z := fun b hb o ho hc => k b hb o (h b hb o ho hc) hc
theorem KpS.b {S : Nat → Prop} (W : World) (l : Nat) (o o' : Obj) (h : W.heap[l]? = some o) (h1 : o.isCells = false) : KpS S W (W.putObj l o') := fun b _ o2 ho hc => by
  have hne : b ≠ l := by
    rintro rfl
    rw [h] at ho
    injection ho with ho
    subst ho
    rw [h1] at hc; cases hc
  exact ((grownBy_putObj' W l o').block b (Array.getElem?_eq_some_iff.1 ho).1 (fun e => hne (by cases e; rfl))).trans ho
theorem KpS.boxed {S : Nat → Prop} {Bs : Nat} {W W' : World} {t : TypeId} {v : Value} (h : KpS S W W') (hs : S Bs) (hb : Boxed W Bs t v) : Boxed W' Bs t v := h Bs hs _ hb rfl
/-- A slice value that reads as these, in one of these blocks. -/
def RdY (S : Nat → Prop) (w : World) (v : Value) (L : List Tr) : Prop :=
  ∃ A c, v = .slice A L.length c ∧ (0 < L.length → ∃ b off cs t, A = some ⟨b, off, none⟩ ∧ S b ∧ w.heap[b]? = some (Obj.cells cs t) ∧ ∀ i (h : i < L.length), w.cell? ⟨b, off + i * 3, none⟩ = some (.int .i64 L[i].1) ∧ w.cell? ⟨b, off + i * 3 + 1, none⟩ = some (.int .i64 L[i].2.1) ∧ w.cell? ⟨b, off + i * 3 + 2, none⟩ = some (slv L[i].2.2))
theorem RdY.blocks {S : Nat → Prop} {w w' : World} {v : Value} {L : List Tr} (h : RdY S w v L) (hb : ∀ b cs t, S b → w.heap[b]? = some (Obj.cells cs t) → w'.heap[b]? = some (Obj.cells cs t)) : RdY S w' v L := by
  obtain ⟨A, c, hv, h⟩ := h
  refine ⟨A, c, hv, fun hn => ?_⟩
  obtain ⟨b, off, cs, t, hA, hs, hh, hc⟩ := h hn
  have h2 := hb b cs t hs hh
  have e : ∀ p, w'.cell? ⟨b, p, none⟩ = w.cell? ⟨b, p, none⟩ := fun p => World.cell?_of_block (a := ⟨b, p, none⟩) (h2.trans hh.symm)
  exact ⟨b, off, cs, t, hA, hs, h2, fun i hi => ⟨(e _).trans (hc i hi).1, (e _).trans (hc i hi).2.1, (e _).trans (hc i hi).2.2⟩⟩
theorem RdY.kept {S : Nat → Prop} {w w' : World} {v : Value} {L : List Tr} (h : RdY S w v L) (hk : KpS S w w') : RdY S w' v L := h.blocks fun b _ _ hs hh => hk b hs _ hh rfl
theorem RdY.below {S : Nat → Prop} {w w' : World} {v : Value} {L : List Tr} (h : RdY S w v L) (hk : Below w.heap.size w w') : RdY S w' v L := h.blocks fun b _ _ _ hh => (hk.block b (Array.getElem?_eq_some_iff.1 hh).1).trans hh
set_option maxRecDepth 100000 in
set_option maxHeartbeats 2000000 in
/-- slices.Backward's closure: the last first, each with its place. -/
theorem back1S (n : Nat) (hn : 1 ≤ n) (l Bs : Nat) (S : Nat → Prop) (hSB : S Bs) (A : Option Addr) (c : Nat) (L : List Tr) (hL : L.length ≤ 1000000) (J Jx : List (Int × Tr) → World → Prop)
    (hY : ∀ pre x W, J pre W → NextB L pre x → YieldAt Fence.wide (n - 1) Try.prog l #[.int .i64 x.1, trV x.2] W fun e W' =>
      (e = .returned (.bool true) ∧ J (pre ++ [x]) W' ∧ KpS S W W') ∨ (e = .returned (.bool false) ∧ Jx (pre ++ [x]) W'))
    (W : World) (hBs : Boxed W Bs 34 (.slice A L.length c)) (hR : RdY S W (.slice A L.length c) L) (h0 : J [] W) :
    CallsIn Fence.wide n Try.prog 95 #[.func (.yield l) #[] #[], .pointer (some ⟨Bs, 0, none⟩)] W fun e W' => (∃ v, e = .returned v) ∧
      ((∃ ys : List (Int × Tr), ys.map (·.2) = L.reverse ∧ J ys W') ∨ (∃ pre, Jx pre W')) := by
  refine callsIn_of_wp Try.func95 rfl trivial ?_ rfl
  simp only [Try.ntmps95, List.size_toArray, List.length_cons, List.length_nil, Nat.reduceAdd, Nat.reduceSub, Array.replicate_succ, Array.replicate_zero, List.push_toArray, List.append_toArray, List.nil_append, List.cons_append]
  have e00 : W.cell? ⟨Bs, 0, none⟩ = some (.slice A L.length c) := hBs.cell
  have HBS := Lib.hid hBs
  clear hBs
  gi_wp2
  gi_loopw [3] (fun i wr => ∃ (k : Nat) (z : Int) (pre : List (Int × Tr)), k ≤ L.length ∧ i = .int .i64 z ∧ z + 1 = k ∧ pre.map (·.2) = (L.drop k).reverse ∧ J pre wr ∧ KpS S W wr ∧ Boxed wr Bs 34 (.slice A L.length c))
    (fun i _ => (intOf i + 1).toNat)
  case atStart => exact ⟨L.length, _, [], Nat.le_refl _, rfl, by omega, by simp, h0, KpS.refl _ _, HBS.out⟩
  case round =>
    obtain ⟨k, z, pre, hk, rfl, hz, hpre, hJs, hnx, hbx⟩ := hrel
    have e0 : wr.cell? ⟨Bs, 0, none⟩ = some (.slice A L.length c) := hbx.cell
    have HBX := Lib.hid hbx
    clear hbx
    by_cases hk0 : 1 ≤ k
    · obtain ⟨A', c', hv, hf⟩ := hR.kept hnx
      injection hv with hv1 _ hv3
      subst hv1; subst hv3
      obtain ⟨b, off, _, _, rfl, _, _, hc⟩ := hf (by omega)
      obtain ⟨c0, c1, c2⟩ := hc (k - 1) (by omega)
      have hdrop : L.drop (k - 1) = L[k - 1] :: L.drop k := by
        have := List.drop_eq_getElem_cons (l := L) (i := k - 1) (by omega)
        rwa [show k - 1 + 1 = k by omega] at this
      have hpl : pre.length < L.length := by
        have : (pre.map (·.2)).length = pre.length := by simp
        rw [hpre] at this
        simp at this
        omega
      have hnb : NextB L pre (z, L[k - 1]) := by
        have hpl2 : pre.length = L.length - k := by
          have : (pre.map (·.2)).length = pre.length := by simp
          rw [hpre] at this
          simp at this
          omega
        refine ⟨hpl, ?_⟩
        have e : L.length - 1 - pre.length = k - 1 := by omega
        rw [Prod.mk.injEq]
        exact ⟨by omega, by simp only [e]⟩
      obtain ⟨x, hx⟩ : ∃ x, L[k - 1] = x := ⟨_, rfl⟩
      rw [hx] at c0 c1 c2 hdrop hnb
      obtain ⟨x1, x2, x3⟩ := x
      dsimp only [slv] at c2
      obtain ⟨fn, tmps, assign, body, hy, hR2⟩ := hY pre (z, x1, x2, x3) wr hJs hnb
      dsimp only [trV, slv] at hy
      have f1 : (0 : Int) ≤ z := by omega
      have f2 : z < (L.length : Int) := by omega
      have f3 : z.toNat = k - 1 := by omega
      have f4 : decide ((0 : Int) ≤ z) = true := decide_eq_true f1
      have HZ := Lib.hid hz
      have HP := Lib.hid hpre
      have HD := Lib.hid hdrop
      clear hz hpre hdrop hx hc hf hpl hnb
      gi_wp2
      refine hR2.mono ?_
      rintro e W3 (⟨rfl, hJ3, hk3⟩ | ⟨rfl, hJx3⟩)
      · gi_wp2
        go_roundw
        case rel => exact ⟨k - 1, z - 1, pre ++ [(z, x1, x2, x3)], by omega, by go_num, by have := HZ.out; omega, by simp [HP.out, HD.out], hJ3, hnx.t hk3, hk3.boxed hSB HBX.out⟩
        case measure => simp [intOf]; omega
      · gi_wp2
        refine bodyPost_ret (results_none rfl _ _ _) rfl ?_
        exact ⟨⟨_, rfl⟩, .inr ⟨_, hJx3⟩⟩
    · obtain rfl : k = 0 := by omega
      have f1 : ¬ (0 : Int) ≤ z := by omega
      have f4 : decide ((0 : Int) ≤ z) = false := decide_eq_false f1
      have HP := Lib.hid hpre
      clear hz hpre
      gi_wp2
      go_end0
      exact ⟨⟨_, rfl⟩, .inl ⟨pre, by simpa using HP.out, hJs⟩⟩
theorem back_seqS (n : Nat) (hn : 1 ≤ n) (Bs : Nat) (S : Nat → Prop) (hSB : S Bs) (t : TypeId) (A : Option Addr) (c : Nat) (L : List Tr) (hL : L.length ≤ 1000000) (w : World) (hBs : Boxed w Bs 34 (.slice A L.length c)) (hR : RdY S w (.slice A L.length c) L) :
    SeqG n Try.prog 95 #[.pointer (some ⟨Bs, 0, none⟩)] t (fun x : Int × Tr => #[Value.int .i64 x.1, trV x.2]) (KpS S) (fun ys => ys.map (·.2) = L.reverse) (fun _ => True) (NextB L) w := fun l J Jx W hW _ _ hY h0 => by
  have hbs : Boxed W Bs 34 (.slice A L.length c) := (hW.block Bs hBs.lt).trans hBs
  refine (back1S n hn l Bs S hSB A c L hL J Jx hY W hbs (hR.below hW) h0).mono ?_
  rintro e W' ⟨he, ⟨ys, hy, hj⟩ | ⟨pre, hj⟩⟩
  · exact ⟨he, .inl ⟨ys, hy, hj⟩⟩
  · exact ⟨he, .inr ⟨pre, trivial, hj⟩⟩
end Go.Proofs.Ytcaclgaaaanfnaa
/- A variable; a type without parts; two types at an address (what of AwA speaks of no text). -/
namespace Go.Proofs.Ytcaclgaaaanfnaa
open Go.RowKit Go.Shelf
/-- Two types at an address. -/
theorem two_cells {X : World} (g cp : Nat) (k0 n0 k1 n1 : Int) (u0 u1 : Sl) (f0 f1 : Fo) (hg : g < X.heap.size) (hcp : 2 ≤ cp) (hcm : cp ≤ maxLen) (c0 : X.cell? ⟨g, 0, none⟩ = some (.int .i64 k0)) (c1 : X.cell? ⟨g, 1, none⟩ = some (.int .i64 n0)) (c2 : X.cell? ⟨g, 2, none⟩ = some (slv u0)) (c3 : X.cell? ⟨g, 3, none⟩ = some (.int .i64 k1)) (c4 : X.cell? ⟨g, 4, none⟩ = some (.int .i64 n1)) (c5 : X.cell? ⟨g, 5, none⟩ = some (slv u1)) (h0 : TyV X.heap.size X f0 (slv u0)) (h1 : TyV X.heap.size X f1 (slv u1)) : TyV X.heap.size X (.cons k0 n0 u0 f0 (.cons k1 n1 u1 f1 .nil)) (.slice (some ⟨g, 0, none⟩) 2 cp) :=
  tyV_cons.2 ⟨g, 0, cp, rfl, hcp, hcm, hg, tyC_cons.2 ⟨c0, c1, c2, h0, tyC_cons.2 ⟨c3, c4, c5, h1, tyC_nil⟩⟩⟩
theorem no_parts (B : Nat) (w : World) : TyV B w .nil (slv (none, 0, 0)) := tyV_nil.2 ⟨none, 0, rfl⟩
set_option maxRecDepth 100000 in
theorem var_any (n : Int) (w : World) : Calls Try.prog 43 #[.int .i64 n] w fun e w' => e = .returned (tyVal 1 n (.slice none 0 0)) ∧ Below w.heap.size w w' := by
  obtain ⟨w1, hw1⟩ : ∃ w1, w.alloc (.cells rt0 36) = w1 := ⟨_, rfl⟩
  have hb1 : Below w.heap.size w w1 := by rw [← hw1]; exact (Below.refl _ _).alloc (Nat.le_refl _) _
  have hx1 : w1.heap[w.heap.size]? = some (Obj.cells rt0 36) := by rw [← hw1]; exact heap_alloc_new w _
  obtain ⟨r0, r1, r2, z0, z1, z2, w2, hw2, hld, hsz, hfar, hbl⟩ := ret_cells (w := w1) w.heap.size 1 n (none, 0, 0) hx1
  have HLD := Lib.hid hld
  have HB := Lib.hid (hb1.trans hbl)
  unfold rt0 at hw1
  clear hld hfar hbl hb1 hx1
  dsimp only [slv] at hw2
  go_enter Try.func43, Try.ntmps43
  go_wp2
  refine bodyPost_ret (results_box rfl _ _ _ _ rfl HLD.out) rfl ?_
  exact ⟨rfl, HB.out⟩
end Go.Proofs.Ytcaclgaaaanfnaa
/- types.Same. -/
namespace Go.Proofs.Ytcaclgaaaanfnaa
open Go.RowKit Go.Shelf
attribute [local go_sem ↓] builtin_app
namespace Fo
theorem same_app (f g f2 g2 : Fo) (h : f.len = g.len) : (f.app f2).same (g.app g2) = (f.same g && f2.same g2) := by
  induction f generalizing g with
  | nil =>
    cases g with
    | nil => simp [app, same]
    | cons => simp [len] at h
  | cons k n u ps r _ ih =>
    cases g with
    | nil => simp [len] at h
    | cons k' n' u' ps' r' =>
      have := ih r' (by simpa [len] using h)
      simp [app, same, this, Bool.and_assoc]
theorem last (F : Fo) (q : Nat) (h : F.len = q + 1) : ∃ (F' : Fo) (k n : Int) (u : Sl) (ps : Fo), F = F'.app (.cons k n u ps .nil) ∧ F'.len = q := by
  induction F generalizing q with
  | nil => simp [len] at h
  | cons k n u ps r _ ih =>
    cases r with
    | nil => exact ⟨.nil, k, n, u, ps, rfl, by simp [len] at h ⊢; omega⟩
    | cons k' n' u' ps' r' =>
      cases q with
      | zero => simp [len] at h
      | succ q =>
        obtain ⟨F', a, b, c, d, h1, h2⟩ := ih q (by simp [len] at h ⊢; omega)
        exact ⟨.cons k n u ps F', a, b, c, d, by rw [h1]; rfl, by simp [len, h2]⟩
end Fo
theorem TyL.unapp {B : Nat} {w : World} {f g : Fo} (h : TyL B w (f.app g)) : TyL B w f ∧ TyL B w g := by
  induction f with
  | nil => exact ⟨trivial, h⟩
  | cons _ _ _ _ r _ ih => exact ⟨⟨h.1, (ih h.2).1⟩, (ih h.2).2⟩
theorem top_len3 (f : Fo) : (f.top.flatMap trC).length = f.len * 3 := by rw [trC_len, Fo.top_len]
/-- The last one's cells. -/
theorem last_cells {w : World} {base a c q : Nat} {F : Fo} {k n : Int} {u : Sl} {ps : Fo} (hq : F.len = q) (h : w.ownsRow base 36 3 (.slice (some ⟨a, 0, none⟩) (q + 1) c) (q + 1) ((F.app (.cons k n u ps .nil)).top.flatMap trC)) :
    w.cell? ⟨a, q * 3, none⟩ = some (.int .i64 k) ∧ w.cell? ⟨a, q * 3 + 1, none⟩ = some (.int .i64 n) ∧ w.cell? ⟨a, q * 3 + 2, none⟩ = some (slv u) ∧
      w.ownsRow base 36 3 (.slice (some ⟨a, 0, none⟩) q c) F.len (F.top.flatMap trC) := by
  have hsl := top_len3 F
  rw [Fo.top_app, List.flatMap_append] at h
  rw [hq] at hsl ⊢
  refine ⟨?_, ?_, ?_, own_cut h q (by omega) hsl⟩
  · rw [h.cellAt _ (by omega), List.getElem?_append_right (by omega), hsl]; simp [trC, Fo.top]
  · rw [h.cellAt _ (by omega), List.getElem?_append_right (by omega), hsl]; simp [trC, Fo.top]
  · rw [h.cellAt _ (by omega), List.getElem?_append_right (by omega), hsl]; simp [trC, Fo.top]
/-- An append of types. -/
theorem app_ty (W : World) (base : Nat) (v : Value) (F : Fo) (own : W.ownsRow base 36 3 v F.len (F.top.flatMap trC)) (vx : Value) (G : Fo) (rd : Rd W 3 vx G.len (G.top.flatMap trC)) (hl : F.len + G.len ≤ 100000000) (hbase : base ≤ W.heap.size) :
    ∃ v' W', (app_ #[34, 34] 34 #[v, vx]).run Try.prog W = .ok v' W' ∧ W'.ownsRow base 36 3 v' (F.app G).len ((F.app G).top.flatMap trC) ∧ Below base W W' ∧ W.grownBy W' v.ownBlock ∧ (v'.ownBlock = v.ownBlock ∨ v'.ownBlock = some W.heap.size) := by
  obtain ⟨i0, hi0, hz0, hz1, hz2⟩ := info_parts tyInfo
  obtain ⟨v1, w1, hrun, hown, hg, hat⟩ := run_append_rd (P := Try.prog) W base 34 34 36 i0 _ 3 40 Try.underlying34 hi0 hz0 hz1 hz2 rfl (by omega) v _ _ own vx _ _ rd (trC_one _) (by unfold maxLen; omega) (by omega) hbase
  refine ⟨v1, w1, hrun, ?_, (Below.refl _ _).grown hg hbase (fun k e => (own.lt k e).1), hg, hat⟩
  rw [Fo.len_app, Fo.top_app, List.flatMap_append]
  exact hown
theorem two_new (w : World) (a b : Obj) : ((w.alloc a).alloc b).drew.heap[w.heap.size]? = some a ∧ ((w.alloc a).alloc b).drew.heap[w.heap.size + 1]? = some b ∧ Below w.heap.size w ((w.alloc a).alloc b).drew := by
  refine ⟨(Below.heap_alloc _ _ _ (by simp)).trans (heap_alloc_new w _), ?_, (((Below.refl _ _).alloc (Nat.le_refl _) _).alloc (by simp) _).drew⟩
  have := heap_alloc_new (w.alloc a) b
  rwa [World.size_alloc] at this
/-- A block that holds one type is a row of one. -/
theorem own_one {w : World} {H g : Nat} {k n : Int} {u : Sl} (hH : H ≤ g) (h : w.heap[g]? = some (Obj.cells #[.int .i64 k, .int .i64 n, slv u] 36)) (ps : Fo) : w.ownsRow H 36 3 (.slice (some ⟨g, 0, none⟩) 1 1) (Fo.cons k n u ps .nil).len ((Fo.cons k n u ps .nil).top.flatMap trC) :=
  ⟨rfl, .inr ⟨g, 1, _, rfl, hH, h, Nat.le_refl _, by unfold maxLen; omega, by simp, by simp [Fo.len, Fo.top, trC]⟩⟩
/-- Two appends, one behind the other, onto two rows. -/
theorem two_apps (W : World) (B base a b q c d : Nat) (F G f g : Fo) (fv gv : Value) (hBb : B ≤ base) (hbase : base ≤ W.heap.size)
    (o1 : W.ownsRow base 36 3 (.slice (some ⟨a, 0, none⟩) q c) F.len (F.top.flatMap trC)) (o2 : W.ownsRow base 36 3 (.slice (some ⟨b, 0, none⟩) q d) G.len (G.top.flatMap trC)) (hne : a ≠ b)
    (hf : TyV B W f fv) (hg : TyV B W g gv) (h1 : F.len + f.len ≤ 100000000) (h2 : G.len + g.len ≤ 100000000) (ha : a < W.heap.size) (hb : b < W.heap.size) :
    ∃ v1 w1 v2 w2, (app_ #[34, 34] 34 #[.slice (some ⟨a, 0, none⟩) q c, fv]).run Try.prog W = .ok v1 w1 ∧ (app_ #[34, 34] 34 #[.slice (some ⟨b, 0, none⟩) q d, gv]).run Try.prog w1 = .ok v2 w2 ∧
      w2.ownsRow base 36 3 v1 (F.app f).len ((F.app f).top.flatMap trC) ∧ w2.ownsRow base 36 3 v2 (G.app g).len ((G.app g).top.flatMap trC) ∧
      (∀ k, v1.ownBlock = some k → v2.ownBlock ≠ some k) ∧ Below base W w2 ∧ (∀ j, j < W.heap.size → j ≠ a → w1.heap[j]? = W.heap[j]?) := by
  obtain ⟨v1, w1, r1, n1, b1, g1, t1⟩ := app_ty W base _ F o1 fv f (TyV.rd3 (by omega) hf) h1 hbase
  have o2' : w1.ownsRow base 36 3 (.slice (some ⟨b, 0, none⟩) q d) G.len (G.top.flatMap trC) := o2.kept g1 (.inr (by simp [Value.ownBlock]; omega))
  have hs1 := g1.size
  obtain ⟨v2, w2, r2, n2, b2, g2, t2⟩ := app_ty w1 base _ G o2' gv g (TyV.rd3 (by omega) (hg.below (b1.mono hBb))) h2 (by omega)
  have e1 : ∀ k, v1.ownBlock = some k → k = a ∨ k = W.heap.size := by
    intro k hk
    rcases t1 with t | t
    · rw [t] at hk; simp [Value.ownBlock] at hk; omega
    · rw [t] at hk; injection hk with hk; omega
  have e2 : ∀ k, v2.ownBlock = some k → k = b ∨ k = w1.heap.size := by
    intro k hk
    rcases t2 with t | t
    · rw [t] at hk; simp [Value.ownBlock] at hk; omega
    · rw [t] at hk; injection hk with hk; omega
  refine ⟨v1, w1, v2, w2, r1, r2, n1.kept g2 ?_, n2, ?_, b1.trans b2, fun j hj hja => g1.block j hj (by simp [Value.ownBlock]; omega)⟩
  · by_cases hn : v1.ownBlock = none
    · exact .inl hn
    · right
      obtain ⟨k, hk⟩ : ∃ k, v1.ownBlock = some k := Option.ne_none_iff_exists'.1 hn
      rw [hk]
      have := e1 k hk
      simp [Value.ownBlock]
      omega
  · intro k hk hk2
    have h3 := e1 k hk
    have h4 := e2 k hk2
    have h5 := (n1.lt k hk).2
    omega
/-- Between two rounds: two stacks of types, as long as each other. -/
def SmInv (w : World) (R : Bool) (t5 t6 : Value) (wr : World) (s : Nat) : Prop :=
  ∃ F G : Fo, F.size = s ∧ F.len = G.len ∧ F.size ≤ 1000000 ∧ G.size ≤ 1000000 ∧ F.same G = R ∧ wr.ownsRow w.heap.size 36 3 t5 F.len (F.top.flatMap trC) ∧ wr.ownsRow w.heap.size 36 3 t6 G.len (G.top.flatMap trC) ∧
    (∀ k, t5.ownBlock = some k → t6.ownBlock ≠ some k) ∧ TyL w.heap.size wr F ∧ TyL w.heap.size wr G ∧ Below w.heap.size w wr
end Go.Proofs.Ytcaclgaaaanfnaa
/- graph.each: in which order; and what is read of a row of one's own. -/
namespace Go.Proofs.Ytcaclgaaaanfnaa
open Go.RowKit Go.Shelf
/-- All that a stack of types is made of, as they come off it; the other way round: each behind its parts, from the left. -/
def grO : Fo → List Tr
  | .nil => []
  | .cons k n u ps r => grO r ++ (k, n, u) :: grO ps
theorem grO_app (f g : Fo) : grO (f.app g) = grO g ++ grO f := by
  induction f with
  | nil => simp [Fo.app, grO]
  | cons k n u ps r _ ih => simp [Fo.app, grO, ih]
theorem grO_size (f : Fo) : (grO f).length = f.size := by
  induction f with
  | nil => rfl
  | cons k n u ps r i1 i2 => simp only [grO, List.length_append, List.length_cons, Fo.size]; omega
theorem grO_pre (f : Fo) : ∀ x ∈ grO f, x ∈ f.pre := by
  induction f with
  | nil => intro x hx; cases hx
  | cons k n u ps r i1 i2 =>
    intro x hx
    simp only [grO, List.mem_append, List.mem_cons] at hx
    simp only [Fo.pre, List.mem_cons, List.mem_append]
    rcases hx with hx | rfl | hx
    · exact .inr (.inr (i2 x hx))
    · exact .inl rfl
    · exact .inr (.inl (i1 x hx))
theorem trC_at (L : List Tr) (i : Nat) (hi : i < L.length) : (L.flatMap trC)[i * 3]? = some (.int .i64 L[i].1) ∧ (L.flatMap trC)[i * 3 + 1]? = some (.int .i64 L[i].2.1) ∧ (L.flatMap trC)[i * 3 + 2]? = some (slv L[i].2.2) := by
  induction L generalizing i with
  | nil => simp at hi
  | cons x L ih =>
    cases i with
    | zero => simp [trC]
    | succ i =>
      have := ih i (by simpa using hi)
      have e : ∀ j, ((x :: L).flatMap trC)[(i + 1) * 3 + j]? = (L.flatMap trC)[i * 3 + j]? := fun j => by
        rw [List.flatMap_cons, List.getElem?_append_right (by simp [trC]; omega)]
        congr 1
        simp [trC]; omega
      have e0 := e 0
      simp only [Nat.add_zero] at e0
      rw [e0, e 1, e 2]
      simpa using this
/-- A row of one's own, read. -/
theorem own_rdY {w : World} {base : Nat} {v : Value} {L : List Tr} (h : w.ownsRow base 36 3 v L.length (L.flatMap trC)) (S : Nat → Prop) (hS : ∀ g, v.ownBlock = some g → S g) : RdY S w v L := by
  have h0 := h
  rcases h.2 with ⟨rfl, hn⟩ | ⟨g, cap, cur, rfl, hb, hg, _⟩
  · exact ⟨none, 0, by rw [hn], fun hp => by omega⟩
  · refine ⟨_, cap, rfl, fun hp => ⟨g, 0, cur, _, rfl, hS g rfl, hg, fun i hi => ?_⟩⟩
    obtain ⟨q0, q1, q2⟩ := trC_at L i hi
    simp only [Nat.zero_add]
    exact ⟨by rw [h0.cellAt _ (by omega)]; exact q0, by rw [h0.cellAt _ (by omega)]; exact q1, by rw [h0.cellAt _ (by omega)]; exact q2⟩
/-- An append of one type onto a row of one's own. -/
theorem app_one (W : World) (base : Nat) (v : Value) (L : List Tr) (own : W.ownsRow base 36 3 v L.length (L.flatMap trC)) (vx : Value) (x : Tr) (rd : Rd W 3 vx 1 (trC x)) (hl : L.length ≤ 10000000) (hbase : base ≤ W.heap.size) :
    ∃ (v' : Value) (W' : World), (app_ #[34, 34] 34 #[v, vx]).run Try.prog W = .ok v' W' ∧ W'.ownsRow base 36 3 v' (L ++ [x]).length ((L ++ [x]).flatMap trC) ∧ Below base W W' ∧ W.grownBy W' v.ownBlock ∧ (v'.ownBlock = v.ownBlock ∨ v'.ownBlock = some W.heap.size) := by
  obtain ⟨i0, hi0, hz0, hz1, hz2⟩ := info_parts tyInfo
  have rd' : Rd W 3 vx [x].length ([x].flatMap trC) := by simpa using rd
  obtain ⟨v1, w1, hrun, hown, hg, hat⟩ := run_append_rd (P := Try.prog) W base 34 34 36 i0 _ 3 40 Try.underlying34 hi0 hz0 hz1 hz2 rfl (by omega) v _ _ own vx _ _ rd' (trC_one _) (by unfold maxLen; simp; omega) (by simp; omega) hbase
  refine ⟨v1, w1, hrun, ?_, (Below.refl _ _).grown hg hbase (fun k e => (own.lt k e).1), hg, hat⟩
  rw [List.length_append, List.flatMap_append]
  exact hown
end Go.Proofs.Ytcaclgaaaanfnaa
