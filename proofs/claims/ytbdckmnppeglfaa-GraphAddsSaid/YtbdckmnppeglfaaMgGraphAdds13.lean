/- Texts of one proof, one behind the other. -/
import Derived.Test.YtbdckmnppeglfaaMgGraphAdds2
import Derived.Test.YtbdckmnppeglfaaMgGraphAdds1
import Derived.RangeFuncFrom
import Derived.Test.YtbdckmnppeglfaaMgGraphAdds10
/- Worlds in which blocks between two bounds turn. -/
namespace Go.Proofs.Ytbdckmnppeglfaa
open Go.RowKit
/-- What turns lies in between. -/
structure Btw (B H : Nat) (W W' : World) : Prop where
  os : W'.os = W.os
  tape : W'.tape = W.tape
  output : W'.output = W.output
  size : W.heap.size ≤ W'.heap.size
  block : ∀ b, (b < B ∨ H ≤ b) → b < W.heap.size → W'.heap[b]? = W.heap[b]?
theorem Btw.refl (B H : Nat) (W : World) : Btw B H W W := ⟨rfl, rfl, rfl, Nat.le_refl _, fun _ _ _ => rfl⟩
theorem Btw.below {B H : Nat} {W W' : World} (h : Btw B H W W') (hB : B ≤ W.heap.size) : Below B W W' := ⟨h.os, h.tape, h.output, h.size, fun b hb => h.block b (.inl hb) (by omega)⟩
theorem Btw.trans {B H : Nat} {a b c : World} (x : Btw B H a b) (y : Btw B H b c) : Btw B H a c :=
  ⟨y.os.trans x.os, y.tape.trans x.tape, y.output.trans x.output, Nat.le_trans x.size y.size, fun k hk hl => (y.block k hk (by have := x.size; omega)).trans (x.block k hk hl)⟩
theorem Btw.of_below {B H : Nat} {W W' : World} (h : Below W.heap.size W W') : Btw B H W W' := ⟨h.os, h.tape, h.output, h.size, fun b _ hl => h.block b hl⟩
theorem Btw.row {B H : Nat} {W W' : World} {base size n : Nat} {e : TypeId} {v : Value} {xs : List Value} (h : Btw B H W W') (hH : H ≤ base) (o : W.ownsRow base e size v n xs) : W'.ownsRow base e size v n xs := by
  refine ⟨o.1, ?_⟩
  rcases o.2 with h2 | ⟨g, cap, cur, hv, hg, hh, r⟩
  · exact .inl h2
  · exact .inr ⟨g, cap, cur, hv, hg, (h.block g (.inr (by omega)) (Array.getElem?_eq_some_iff.1 hh).1).trans hh, r⟩
/-- What turns lies in between, or was laid from M on and is cells. -/
structure Bt3 (B H M : Nat) (W W' : World) : Prop where
  os : W'.os = W.os
  tape : W'.tape = W.tape
  output : W'.output = W.output
  size : W.heap.size ≤ W'.heap.size
  block : ∀ b, (b < B ∨ (H ≤ b ∧ b < M)) → b < W.heap.size → W'.heap[b]? = W.heap[b]?
  same : ∀ b o, M ≤ b → W.heap[b]? = some o → o.isCells = false → W'.heap[b]? = some o
theorem Bt3.refl (B H M : Nat) (W : World) : Bt3 B H M W W := ⟨rfl, rfl, rfl, Nat.le_refl _, fun _ _ _ => rfl, fun _ _ _ h _ => h⟩
theorem Bt3.below {B H M : Nat} {W W' : World} (h : Bt3 B H M W W') (hB : B ≤ W.heap.size) : Below B W W' := ⟨h.os, h.tape, h.output, h.size, fun b hb => h.block b (.inl hb) (by omega)⟩
theorem Bt3.trans {B H M : Nat} {a b c : World} (x : Bt3 B H M a b) (y : Bt3 B H M b c) : Bt3 B H M a c :=
  ⟨y.os.trans x.os, y.tape.trans x.tape, y.output.trans x.output, Nat.le_trans x.size y.size, fun k hk hl => (y.block k hk (by have := x.size; omega)).trans (x.block k hk hl), fun k o hk ho hc => y.same k o hk (x.same k o hk ho hc) hc⟩
theorem Bt3.of_below {B H M : Nat} {W W' : World} (h : Below W.heap.size W W') : Bt3 B H M W W' :=
  ⟨h.os, h.tape, h.output, h.size, fun b _ hl => h.block b hl, fun b _ _ ho _ => (h.block b (Array.getElem?_eq_some_iff.1 ho).1).trans ho⟩
end Go.Proofs.Ytbdckmnppeglfaa
/- slices.Backward at types, while some blocks turn and some stay: what stays is told by the blocks. -/
namespace Go.Proofs.Ytbdckmnppeglfaa
open Go.RowKit Go.Shelf
attribute [local go_sem] Oper.semAt_some
/-- The cells of these blocks stay. -/
def KpS (S : Nat → Prop) (W W' : World) : Prop := ∀ b, S b → ∀ o, W.heap[b]? = some o → o.isCells = true → W'.heap[b]? = some o
theorem KpS.refl (S : Nat → Prop) (W : World) : KpS S W W := fun _ _ _ h _ => h
theorem KpS.t {S : Nat → Prop} {X Y Z : World} (h : KpS S X Y) (k : KpS S Y Z) : KpS S X Z := fun b hb o ho hc => k b hb o (h b hb o ho hc) hc
theorem KpS.b {S : Nat → Prop} (W : World) (l : Nat) (o o' : Obj) (h : W.heap[l]? = some o) (h1 : o.isCells = false) : KpS S W (W.putObj l o') := fun b _ o2 ho hc => by
  have hne : b ≠ l := by
    rintro rfl
    rw [h] at ho
    injection ho with ho
    subst ho
    rw [h1] at hc; cases hc
  exact ((grownBy_putObj' W l o').block b (Array.getElem?_eq_some_iff.1 ho).1 (fun e => hne (by cases e; rfl))).trans ho
theorem KpS.boxed {S : Nat → Prop} {Bs : Nat} {W W' : World} {t : TypeId} {v : Value} (h : KpS S W W') (hs : S Bs) (hb : Boxed W Bs t v) : Boxed W' Bs t v := h Bs hs _ hb rfl
/-- A slice value that reads as these, in one of these blocks. -/
def RdY (S : Nat → Prop) (w : World) (v : Value) (L : List Tr) : Prop :=
  ∃ A c, v = .slice A L.length c ∧ (0 < L.length → ∃ b off cs t, A = some ⟨b, off, none⟩ ∧ S b ∧ w.heap[b]? = some (Obj.cells cs t) ∧ ∀ i (h : i < L.length), w.cell? ⟨b, off + i * 3, none⟩ = some (.int .i64 L[i].1) ∧ w.cell? ⟨b, off + i * 3 + 1, none⟩ = some (.int .i64 L[i].2.1) ∧ w.cell? ⟨b, off + i * 3 + 2, none⟩ = some (slv L[i].2.2))
theorem RdY.blocks {S : Nat → Prop} {w w' : World} {v : Value} {L : List Tr} (h : RdY S w v L) (hb : ∀ b cs t, S b → w.heap[b]? = some (Obj.cells cs t) → w'.heap[b]? = some (Obj.cells cs t)) : RdY S w' v L := by
  obtain ⟨A, c, hv, h⟩ := h
  refine ⟨A, c, hv, fun hn => ?_⟩
  obtain ⟨b, off, cs, t, hA, hs, hh, hc⟩ := h hn
  have h2 := hb b cs t hs hh
  have e : ∀ p, w'.cell? ⟨b, p, none⟩ = w.cell? ⟨b, p, none⟩ := fun p => World.cell?_of_block (a := ⟨b, p, none⟩) (h2.trans hh.symm)
  exact ⟨b, off, cs, t, hA, hs, h2, fun i hi => ⟨(e _).trans (hc i hi).1, (e _).trans (hc i hi).2.1, (e _).trans (hc i hi).2.2⟩⟩
theorem RdY.kept {S : Nat → Prop} {w w' : World} {v : Value} {L : List Tr} (h : RdY S w v L) (hk : KpS S w w') : RdY S w' v L := h.blocks fun b _ _ hs hh => hk b hs _ hh rfl
theorem RdY.below {S : Nat → Prop} {w w' : World} {v : Value} {L : List Tr} (h : RdY S w v L) (hk : Below w.heap.size w w') : RdY S w' v L := h.blocks fun b _ _ _ hh => (hk.block b (Array.getElem?_eq_some_iff.1 hh).1).trans hh
set_option maxRecDepth 100000 in
set_option maxHeartbeats 2000000 in
/-- slices.Backward's closure: the last first, each with its place. -/
theorem back1S (n : Nat) (hn : 1 ≤ n) (l Bs : Nat) (S : Nat → Prop) (hSB : S Bs) (A : Option Addr) (c : Nat) (L : List Tr) (hL : L.length ≤ 1000000) (J Jx : List (Int × Tr) → World → Prop)
    (hY : ∀ pre x W, J pre W → NextB L pre x → YieldAt Fence.wide (n - 1) Try.prog l #[.int .i64 x.1, trV x.2] W fun e W' =>
      (e = .returned (.bool true) ∧ J (pre ++ [x]) W' ∧ KpS S W W') ∨ (e = .returned (.bool false) ∧ Jx (pre ++ [x]) W'))
    (W : World) (hBs : Boxed W Bs 22 (.slice A L.length c)) (hR : RdY S W (.slice A L.length c) L) (h0 : J [] W) :
    CallsIn Fence.wide n Try.prog 100 #[.func (.yield l) #[] #[], .pointer (some ⟨Bs, 0, none⟩)] W fun e W' => (∃ v, e = .returned v) ∧
      ((∃ ys : List (Int × Tr), ys.map (·.2) = L.reverse ∧ J ys W') ∨ (∃ pre, Jx pre W')) := by
  refine callsIn_of_wp Try.func100 rfl trivial ?_ rfl
  simp only [Try.ntmps100, List.size_toArray, List.length_cons, List.length_nil, Nat.reduceAdd, Nat.reduceSub, Array.replicate_succ, Array.replicate_zero, List.push_toArray, List.append_toArray, List.nil_append, List.cons_append]
  have e00 : W.cell? ⟨Bs, 0, none⟩ = some (.slice A L.length c) := hBs.cell
  have HBS := Lib.hid hBs
  clear hBs
  gi_wp2
  gi_loopw [3] (fun i wr => ∃ (k : Nat) (z : Int) (pre : List (Int × Tr)), k ≤ L.length ∧ i = .int .i64 z ∧ z + 1 = k ∧ pre.map (·.2) = (L.drop k).reverse ∧ J pre wr ∧ KpS S W wr ∧ Boxed wr Bs 22 (.slice A L.length c))
    (fun i _ => (intOf i + 1).toNat)
  case atStart => exact ⟨L.length, _, [], Nat.le_refl _, rfl, by omega, by simp, h0, KpS.refl _ _, HBS.out⟩
  case round =>
    obtain ⟨k, z, pre, hk, rfl, hz, hpre, hJs, hnx, hbx⟩ := hrel
    have e0 : wr.cell? ⟨Bs, 0, none⟩ = some (.slice A L.length c) := hbx.cell
    have HBX := Lib.hid hbx
    clear hbx
    by_cases hk0 : 1 ≤ k
    · obtain ⟨A', c', hv, hf⟩ := hR.kept hnx
      injection hv with hv1 _ hv3
      subst hv1; subst hv3
      obtain ⟨b, off, _, _, rfl, _, _, hc⟩ := hf (by omega)
      obtain ⟨c0, c1, c2⟩ := hc (k - 1) (by omega)
      have hdrop : L.drop (k - 1) = L[k - 1] :: L.drop k := by
        have := List.drop_eq_getElem_cons (l := L) (i := k - 1) (by omega)
        rwa [show k - 1 + 1 = k by omega] at this
      have hpl : pre.length < L.length := by
        have : (pre.map (·.2)).length = pre.length := by simp
        rw [hpre] at this
        simp at this
        omega
      have hnb : NextB L pre (z, L[k - 1]) := by
        have hpl2 : pre.length = L.length - k := by
          have : (pre.map (·.2)).length = pre.length := by simp
          rw [hpre] at this
          simp at this
          omega
        refine ⟨hpl, ?_⟩
        have e : L.length - 1 - pre.length = k - 1 := by omega
        rw [Prod.mk.injEq]
        exact ⟨by omega, by simp only [e]⟩
      obtain ⟨x, hx⟩ : ∃ x, L[k - 1] = x := ⟨_, rfl⟩
      rw [hx] at c0 c1 c2 hdrop hnb
      obtain ⟨x1, x2, x3⟩ := x
      dsimp only [slv] at c2
      obtain ⟨fn, tmps, assign, body, hy, hR2⟩ := hY pre (z, x1, x2, x3) wr hJs hnb
      dsimp only [trV, slv] at hy
      have f1 : (0 : Int) ≤ z := by omega
      have f2 : z < (L.length : Int) := by omega
      have f3 : z.toNat = k - 1 := by omega
      have f4 : decide ((0 : Int) ≤ z) = true := decide_eq_true f1
      have HZ := Lib.hid hz
      have HP := Lib.hid hpre
      have HD := Lib.hid hdrop
      clear hz hpre hdrop hx hc hf hpl hnb
      gi_wp2
      refine hR2.mono ?_
      rintro e W3 (⟨rfl, hJ3, hk3⟩ | ⟨rfl, hJx3⟩)
      · gi_wp2
        go_roundw
        case rel => exact ⟨k - 1, z - 1, pre ++ [(z, x1, x2, x3)], by omega, by go_num, by have := HZ.out; omega, by simp [HP.out, HD.out], hJ3, hnx.t hk3, hk3.boxed hSB HBX.out⟩
        case measure => simp [intOf]; omega
      · gi_wp2
        refine bodyPost_ret (results_none rfl _ _ _) rfl ?_
        exact ⟨⟨_, rfl⟩, .inr ⟨_, hJx3⟩⟩
    · obtain rfl : k = 0 := by omega
      have f1 : ¬ (0 : Int) ≤ z := by omega
      have f4 : decide ((0 : Int) ≤ z) = false := decide_eq_false f1
      have HP := Lib.hid hpre
      clear hz hpre
      gi_wp2
      go_end0
      exact ⟨⟨_, rfl⟩, .inl ⟨pre, by simpa using HP.out, hJs⟩⟩
theorem back_seqS (n : Nat) (hn : 1 ≤ n) (Bs : Nat) (S : Nat → Prop) (hSB : S Bs) (t : TypeId) (A : Option Addr) (c : Nat) (L : List Tr) (hL : L.length ≤ 1000000) (w : World) (hBs : Boxed w Bs 22 (.slice A L.length c)) (hR : RdY S w (.slice A L.length c) L) :
    SeqG n Try.prog 100 #[.pointer (some ⟨Bs, 0, none⟩)] t (fun x : Int × Tr => #[Value.int .i64 x.1, trV x.2]) (KpS S) (fun ys => ys.map (·.2) = L.reverse) (fun _ => True) (NextB L) w := fun l J Jx W hW _ _ hY h0 => by
  have hbs : Boxed W Bs 22 (.slice A L.length c) := (hW.block Bs hBs.lt).trans hBs
  refine (back1S n hn l Bs S hSB A c L hL J Jx hY W hbs (hR.below hW) h0).mono ?_
  rintro e W' ⟨he, ⟨ys, hy, hj⟩ | ⟨pre, hj⟩⟩
  · exact ⟨he, .inl ⟨ys, hy, hj⟩⟩
  · exact ⟨he, .inr ⟨pre, trivial, hj⟩⟩
end Go.Proofs.Ytbdckmnppeglfaa
/- A row of one's own stands behind what lays new blocks alone. -/
namespace Go.Proofs.Ytbdckmnppeglfaa
open Go.RowKit
theorem own_below {w w' : World} {base : Nat} {e : TypeId} {size : Nat} {v : Value} {n : Nat} {xs : List Value} (h : w.ownsRow base e size v n xs) (hb : Below w.heap.size w w') : w'.ownsRow base e size v n xs := by
  refine ⟨h.1, ?_⟩
  rcases h.2 with h0 | ⟨g, cap, cur, h0, hbg, hg, hr⟩
  · exact .inl h0
  · exact .inr ⟨g, cap, cur, h0, hbg, (hb.block g (Array.getElem?_eq_some_iff.1 hg).1).trans hg, hr⟩
end Go.Proofs.Ytbdckmnppeglfaa
