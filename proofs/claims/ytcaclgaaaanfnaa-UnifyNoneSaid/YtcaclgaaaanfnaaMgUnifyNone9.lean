/- Texts of one proof, one behind the other. -/
import Derived.Test.YtcaclgaaaanfnaaMgUnifyNone8
import Derived.Test.YtcaclgaaaanfnaaMgUnifyNone6
import Derived.Test.YtcaclgaaaanfnaaMgUnifyNone1
import Derived.Test.YtcaclgaaaanfnaaMgUnifyNone2
/- slices.Backward at types, while some blocks turn and some stay: what stays is told by the blocks. -/
namespace Go.Proofs.Ytcaclgaaaanfnaa
open Go.RowKit Go.Shelf
attribute [local go_sem] Oper.semAt_some
/-- The cells of these blocks stay. -/
def KpS (S : Nat → Prop) (W W' : World) : Prop := ∀ b, S b → ∀ o, W.heap[b]? = some o → o.isCells = true → W'.heap[b]? = some o
theorem KpS.refl (S : Nat → Prop) (W : World) : KpS S W W := fun _ _ _ h _ => h
theorem KpS.t {S : Nat → Prop} {X Y Z : World} (h : KpS S X Y) (k : KpS S Y Z) : KpS S X Z := fun b hb o ho hc => k b hb o (h b hb o ho hc) hc
theorem KpS.b {S : Nat → Prop} (W : World) (l : Nat) (o o' : Obj) (h : W.heap[l]? = some o) (h1 : o.isCells = false) : KpS S W (W.putObj l o') := fun b _ o2 ho hc => by
  have hne : b ≠ l := by
    rintro rfl
    rw [h] at ho
    injection ho with ho
    subst ho
    rw [h1] at hc; cases hc
  exact ((grownBy_putObj' W l o').block b (Array.getElem?_eq_some_iff.1 ho).1 (fun e => hne (by cases e; rfl))).trans ho
theorem KpS.boxed {S : Nat → Prop} {Bs : Nat} {W W' : World} {t : TypeId} {v : Value} (h : KpS S W W') (hs : S Bs) (hb : Boxed W Bs t v) : Boxed W' Bs t v := h Bs hs _ hb rfl
/-- A slice value that reads as these, in one of these blocks. -/
def RdY (S : Nat → Prop) (w : World) (v : Value) (L : List Tr) : Prop :=
  ∃ A c, v = .slice A L.length c ∧ (0 < L.length → ∃ b off cs t, A = some ⟨b, off, none⟩ ∧ S b ∧ w.heap[b]? = some (Obj.cells cs t) ∧ ∀ i (h : i < L.length), w.cell? ⟨b, off + i * 3, none⟩ = some (.int .i64 L[i].1) ∧ w.cell? ⟨b, off + i * 3 + 1, none⟩ = some (.int .i64 L[i].2.1) ∧ w.cell? ⟨b, off + i * 3 + 2, none⟩ = some (slv L[i].2.2))
theorem RdY.blocks {S : Nat → Prop} {w w' : World} {v : Value} {L : List Tr} (h : RdY S w v L) (hb : ∀ b cs t, S b → w.heap[b]? = some (Obj.cells cs t) → w'.heap[b]? = some (Obj.cells cs t)) : RdY S w' v L := by
  obtain ⟨A, c, hv, h⟩ := h
  refine ⟨A, c, hv, fun hn => ?_⟩
  obtain ⟨b, off, cs, t, hA, hs, hh, hc⟩ := h hn
  have h2 := hb b cs t hs hh
  have e : ∀ p, w'.cell? ⟨b, p, none⟩ = w.cell? ⟨b, p, none⟩ := fun p => World.cell?_of_block (a := ⟨b, p, none⟩) (h2.trans hh.symm)
  exact ⟨b, off, cs, t, hA, hs, h2, fun i hi => ⟨(e _).trans (hc i hi).1, (e _).trans (hc i hi).2.1, (e _).trans (hc i hi).2.2⟩⟩
theorem RdY.kept {S : Nat → Prop} {w w' : World} {v : Value} {L : List Tr} (h : RdY S w v L) (hk : KpS S w w') : RdY S w' v L := h.blocks fun b _ _ hs hh => hk b hs _ hh rfl
theorem RdY.below {S : Nat → Prop} {w w' : World} {v : Value} {L : List Tr} (h : RdY S w v L) (hk : Below w.heap.size w w') : RdY S w' v L := h.blocks fun b _ _ _ hh => (hk.block b (Array.getElem?_eq_some_iff.1 hh).1).trans hh
set_option maxRecDepth 100000 in
set_option maxHeartbeats 2000000 in
/-- slices.Backward's closure: the last first, each with its place. -/
theorem back1S (n : Nat) (hn : 1 ≤ n) (l Bs : Nat) (S : Nat → Prop) (hSB : S Bs) (A : Option Addr) (c : Nat) (L : List Tr) (hL : L.length ≤ 1000000) (J Jx : List (Int × Tr) → World → Prop)
    (hY : ∀ pre x W, J pre W → NextB L pre x → YieldAt Fence.wide (n - 1) Try.prog l #[.int .i64 x.1, trV x.2] W fun e W' =>
      (e = .returned (.bool true) ∧ J (pre ++ [x]) W' ∧ KpS S W W') ∨ (e = .returned (.bool false) ∧ Jx (pre ++ [x]) W'))
    (W : World) (hBs : Boxed W Bs 34 (.slice A L.length c)) (hR : RdY S W (.slice A L.length c) L) (h0 : J [] W) :
    CallsIn Fence.wide n Try.prog 95 #[.func (.yield l) #[] #[], .pointer (some ⟨Bs, 0, none⟩)] W fun e W' => (∃ v, e = .returned v) ∧
      ((∃ ys : List (Int × Tr), ys.map (·.2) = L.reverse ∧ J ys W') ∨ (∃ pre, Jx pre W')) := by
  refine callsIn_of_wp Try.func95 rfl trivial ?_ rfl
  simp only [Try.ntmps95, List.size_toArray, List.length_cons, List.length_nil, Nat.reduceAdd, Nat.reduceSub, Array.replicate_succ, Array.replicate_zero, List.push_toArray, List.append_toArray, List.nil_append, List.cons_append]
  have e00 : W.cell? ⟨Bs, 0, none⟩ = some (.slice A L.length c) := hBs.cell
  have HBS := Lib.hid hBs
  clear hBs
  gi_wp2
  gi_loopw [3] (fun i wr => ∃ (k : Nat) (z : Int) (pre : List (Int × Tr)), k ≤ L.length ∧ i = .int .i64 z ∧ z + 1 = k ∧ pre.map (·.2) = (L.drop k).reverse ∧ J pre wr ∧ KpS S W wr ∧ Boxed wr Bs 34 (.slice A L.length c))
    (fun i _ => (intOf i + 1).toNat)
  case atStart => exact ⟨L.length, _, [], Nat.le_refl _, rfl, by omega, by simp, h0, KpS.refl _ _, HBS.out⟩
  case round =>
    obtain ⟨k, z, pre, hk, rfl, hz, hpre, hJs, hnx, hbx⟩ := hrel
    have e0 : wr.cell? ⟨Bs, 0, none⟩ = some (.slice A L.length c) := hbx.cell
    have HBX := Lib.hid hbx
    clear hbx
    by_cases hk0 : 1 ≤ k
    · obtain ⟨A', c', hv, hf⟩ := hR.kept hnx
      injection hv with hv1 _ hv3
      subst hv1; subst hv3
      obtain ⟨b, off, _, _, rfl, _, _, hc⟩ := hf (by omega)
      obtain ⟨c0, c1, c2⟩ := hc (k - 1) (by omega)
      have hdrop : L.drop (k - 1) = L[k - 1] :: L.drop k := by
        have := List.drop_eq_getElem_cons (l := L) (i := k - 1) (by omega)
        rwa [show k - 1 + 1 = k by omega] at this
      have hpl : pre.length < L.length := by
        have : (pre.map (·.2)).length = pre.length := by simp
        rw [hpre] at this
        simp at this
        omega
      have hnb : NextB L pre (z, L[k - 1]) := by
        have hpl2 : pre.length = L.length - k := by
          have : (pre.map (·.2)).length = pre.length := by simp
          rw [hpre] at this
          simp at this
          omega
        refine ⟨hpl, ?_⟩
        have e : L.length - 1 - pre.length = k - 1 := by omega
        rw [Prod.mk.injEq]
        exact ⟨by omega, by simp only [e]⟩
      obtain ⟨x, hx⟩ : ∃ x, L[k - 1] = x := ⟨_, rfl⟩
      rw [hx] at c0 c1 c2 hdrop hnb
      obtain ⟨x1, x2, x3⟩ := x
      dsimp only [slv] at c2
      obtain ⟨fn, tmps, assign, body, hy, hR2⟩ := hY pre (z, x1, x2, x3) wr hJs hnb
      dsimp only [trV, slv] at hy
      have f1 : (0 : Int) ≤ z := by omega
      have f2 : z < (L.length : Int) := by omega
      have f3 : z.toNat = k - 1 := by omega
      have f4 : decide ((0 : Int) ≤ z) = true := decide_eq_true f1
      have HZ := Lib.hid hz
      have HP := Lib.hid hpre
      have HD := Lib.hid hdrop
      clear hz hpre hdrop hx hc hf hpl hnb
      gi_wp2
      refine hR2.mono ?_
      rintro e W3 (⟨rfl, hJ3, hk3⟩ | ⟨rfl, hJx3⟩)
      · gi_wp2
        go_roundw
        case rel => exact ⟨k - 1, z - 1, pre ++ [(z, x1, x2, x3)], by omega, by go_num, by have := HZ.out; omega, by simp [HP.out, HD.out], hJ3, hnx.t hk3, hk3.boxed hSB HBX.out⟩
        case measure => simp [intOf]; omega
      · gi_wp2
        refine bodyPost_ret (results_none rfl _ _ _) rfl ?_
        exact ⟨⟨_, rfl⟩, .inr ⟨_, hJx3⟩⟩
    · obtain rfl : k = 0 := by omega
      have f1 : ¬ (0 : Int) ≤ z := by omega
      have f4 : decide ((0 : Int) ≤ z) = false := decide_eq_false f1
      have HP := Lib.hid hpre
      clear hz hpre
      gi_wp2
      go_end0
      exact ⟨⟨_, rfl⟩, .inl ⟨pre, by simpa using HP.out, hJs⟩⟩
theorem back_seqS (n : Nat) (hn : 1 ≤ n) (Bs : Nat) (S : Nat → Prop) (hSB : S Bs) (t : TypeId) (A : Option Addr) (c : Nat) (L : List Tr) (hL : L.length ≤ 1000000) (w : World) (hBs : Boxed w Bs 34 (.slice A L.length c)) (hR : RdY S w (.slice A L.length c) L) :
    SeqG n Try.prog 95 #[.pointer (some ⟨Bs, 0, none⟩)] t (fun x : Int × Tr => #[Value.int .i64 x.1, trV x.2]) (KpS S) (fun ys => ys.map (·.2) = L.reverse) (fun _ => True) (NextB L) w := fun l J Jx W hW _ _ hY h0 => by
  have hbs : Boxed W Bs 34 (.slice A L.length c) := (hW.block Bs hBs.lt).trans hBs
  refine (back1S n hn l Bs S hSB A c L hL J Jx hY W hbs (hR.below hW) h0).mono ?_
  rintro e W' ⟨he, ⟨ys, hy, hj⟩ | ⟨pre, hj⟩⟩
  · exact ⟨he, .inl ⟨ys, hy, hj⟩⟩
  · exact ⟨he, .inr ⟨pre, trivial, hj⟩⟩
end Go.Proofs.Ytcaclgaaaanfnaa
/- A variable; a type without parts; two types at an address (what of AwA speaks of no text). -/
namespace Go.Proofs.Ytcaclgaaaanfnaa
open Go.RowKit Go.Shelf
/-- Two types at an address. -/
theorem two_cells {X : World} (g cp : Nat) (k0 n0 k1 n1 : Int) (u0 u1 : Sl) (f0 f1 : Fo) (hg : g < X.heap.size) (hcp : 2 ≤ cp) (hcm : cp ≤ maxLen) (c0 : X.cell? ⟨g, 0, none⟩ = some (.int .i64 k0)) (c1 : X.cell? ⟨g, 1, none⟩ = some (.int .i64 n0)) (c2 : X.cell? ⟨g, 2, none⟩ = some (slv u0)) (c3 : X.cell? ⟨g, 3, none⟩ = some (.int .i64 k1)) (c4 : X.cell? ⟨g, 4, none⟩ = some (.int .i64 n1)) (c5 : X.cell? ⟨g, 5, none⟩ = some (slv u1)) (h0 : TyV X.heap.size X f0 (slv u0)) (h1 : TyV X.heap.size X f1 (slv u1)) : TyV X.heap.size X (.cons k0 n0 u0 f0 (.cons k1 n1 u1 f1 .nil)) (.slice (some ⟨g, 0, none⟩) 2 cp) :=
  tyV_cons.2 ⟨g, 0, cp, rfl, hcp, hcm, hg, tyC_cons.2 ⟨c0, c1, c2, h0, tyC_cons.2 ⟨c3, c4, c5, h1, tyC_nil⟩⟩⟩
theorem no_parts (B : Nat) (w : World) : TyV B w .nil (slv (none, 0, 0)) := tyV_nil.2 ⟨none, 0, rfl⟩
set_option maxRecDepth 100000 in
theorem var_any (n : Int) (w : World) : Calls Try.prog 43 #[.int .i64 n] w fun e w' => e = .returned (tyVal 1 n (.slice none 0 0)) ∧ Below w.heap.size w w' := by
  obtain ⟨w1, hw1⟩ : ∃ w1, w.alloc (.cells rt0 36) = w1 := ⟨_, rfl⟩
  have hb1 : Below w.heap.size w w1 := by rw [← hw1]; exact (Below.refl _ _).alloc (Nat.le_refl _) _
  have hx1 : w1.heap[w.heap.size]? = some (Obj.cells rt0 36) := by rw [← hw1]; exact heap_alloc_new w _
  obtain ⟨r0, r1, r2, z0, z1, z2, w2, hw2, hld, hsz, hfar, hbl⟩ := ret_cells (w := w1) w.heap.size 1 n (none, 0, 0) hx1
  have HLD := Lib.hid hld
  have HB := Lib.hid (hb1.trans hbl)
  unfold rt0 at hw1
  clear hld hfar hbl hb1 hx1
  dsimp only [slv] at hw2
  go_enter Try.func43, Try.ntmps43
  go_wp2
  refine bodyPost_ret (results_box rfl _ _ _ _ rfl HLD.out) rfl ?_
  exact ⟨rfl, HB.out⟩
end Go.Proofs.Ytcaclgaaaanfnaa
/- A row of one's own stands behind what lays new blocks alone. -/
namespace Go.Proofs.Ytcaclgaaaanfnaa
open Go.RowKit
theorem own_below {w w' : World} {base : Nat} {e : TypeId} {size : Nat} {v : Value} {n : Nat} {xs : List Value} (h : w.ownsRow base e size v n xs) (hb : Below w.heap.size w w') : w'.ownsRow base e size v n xs := by
  refine ⟨h.1, ?_⟩
  rcases h.2 with h0 | ⟨g, cap, cur, h0, hbg, hg, hr⟩
  · exact .inl h0
  · exact .inr ⟨g, cap, cur, h0, hbg, (hb.block g (Array.getElem?_eq_some_iff.1 hg).1).trans hg, hr⟩
end Go.Proofs.Ytcaclgaaaanfnaa
/- types.Right, types.Has. -/
namespace Go.Proofs.Ytcaclgaaaanfnaa
open Go.RowKit Go.Shelf
attribute [local go_sem] Oper.semAt_some

/-- Is every one of them a type, its parts left aside? -/
def allAlone (l : List Tr) : Bool := l.all fun x => alone x.1 x.2.1 x.2.2.2.1
theorem load_bool {w : World} {g : Nat} {b : Bool} (h : w.cell? ⟨g, 0, none⟩ = some (.bool b)) : (loadVar 4 ⟨g, 0, none⟩).run Try.prog w = .ok (.bool b) w := by
  go_simp
set_option maxRecDepth 100000 in
set_option maxHeartbeats 2000000 in
theorem right_any (w : World) (B : Nat) (k n : Int) (u : Sl) (ps : Fo) (hB : B ≤ w.heap.size) (hps : TyV B w ps (slv u)) (hs : ps.size < 1000000) :
    Calls Try.prog 47 #[tyVal k n (slv u)] w fun e w' => e = .returned (.bool (allAlone (Fo.cons k n u ps .nil).pre)) ∧ Below w.heap.size w w' := by
  obtain ⟨u1, u2, u3⟩ := u
  dsimp only [tyVal, slv] at hps ⊢
  refine (callsIn_wide (n := 4)).1 ?_
  refine callsIn_of_wp_marks Try.func47 rfl trivial ?_ rfl
  simp only [Try.ntmps47, List.size_toArray, List.length_cons, List.length_nil, Nat.reduceAdd, Nat.reduceSub, Array.replicate_succ, Array.replicate_zero, List.push_toArray, List.append_toArray, List.nil_append, List.cons_append]
  gi_wp2_with (refine ⟨trivial, ?_⟩; gi_at_call 74; refine (callsIn_wide.2 (all_make _ 1 1 _)).mono ?_; rintro e w' ⟨rfl, rfl⟩)
  obtain ⟨wa, hwa⟩ : ∃ wa, (w.alloc (Obj.cells #[.int .i64 k, .int .i64 n, .slice u1 u2 u3] 36)).alloc (Obj.cells #[.bool false] 4) = wa := ⟨_, rfl⟩
  have hsa : wa.heap.size = w.heap.size + 1 + 1 := by rw [← hwa]; simp
  have hba : Below w.heap.size w wa := by rw [← hwa]; exact ((Below.refl _ w).alloc (Nat.le_refl _) _).alloc (by simp) _
  have bz : Boxed wa (w.heap.size + 1) 4 (.bool false) := by
    rw [← hwa]
    have := Boxed.new (w.alloc (Obj.cells #[.int .i64 k, .int .i64 n, .slice u1 u2 u3] 36)) 4 (.bool false)
    rwa [World.size_alloc] at this
  obtain ⟨w4, hw4, hs4, hbx, hrd, hTL, hb4⟩ := one_laid (w := wa) (B := B) k n (u1, u2, u3) ps (by omega) (hps.below (hba.mono hB))
  dsimp only [slv] at hw4
  rw [hwa, ← hsa, hw4]
  have bz4 : Boxed w4 (w.heap.size + 1) 4 (.bool false) := (hb4.block _ (by omega)).trans bz
  have hb04 : Below w.heap.size w w4 := hba.trans (hb4.mono (by omega))
  have hf : (Fo.cons k n (u1, u2, u3) ps .nil).size = 1 + ps.size := by simp [Fo.size]
  refine wpIn_rangeC (by omega) (gf := 98) (lb := #[.pointer (some ⟨wa.heap.size + 1, 0, none⟩)]) rfl (enters_of Try.func98 (by kernel_rfl) rfl)
    (all_seq 3 (by omega) (wa.heap.size + 1) B _ (.cons k n (u1, u2, u3) ps .nil) (by omega) w4 (by omega) hbx hrd hTL) (Below.refl _ _) KpC.t (KpC.b (by omega)) (fun _ => rfl)
    (fun pre W => allAlone pre = true ∧ Boxed W (w.heap.size + 1) 4 (.bool false) ∧ Below w.heap.size w W) (fun c pre W => (c = .ret ∧ allAlone pre = false) ∧ Boxed W (w.heap.size + 1) 4 (.bool false) ∧ Below w.heap.size w W)
    (OwnFrom.and (ownFrom_pure _ _) (OwnFrom.and (Own.from (boxed_own _ _ (fun _ => .bool false)) _) (below_own (by omega) (Nat.le_refl _)))) (fun _ => OwnFrom.and (ownFrom_pure _ _) (OwnFrom.and (Own.from (boxed_own _ _ (fun _ => .bool false)) _) (below_own (by omega) (Nat.le_refl _))))
    (AbC.and AbC.pure (AbC.and (box_ab (by decide)) (below_ab (by omega) (Nat.le_refl _)))) (fun _ => AbC.and AbC.pure (AbC.and (box_ab (by decide)) (below_ab (by omega) (Nat.le_refl _))))
    ⟨rfl, bz4, hb04⟩
    (fun x a' W => ∃ Bx, (W.cell? ⟨Bx, 0, none⟩ = some (.int .i64 x.1) ∧ W.cell? ⟨Bx, 1, none⟩ = some (.int .i64 x.2.1) ∧ W.cell? ⟨Bx, 2, none⟩ = some (slv x.2.2)) ∧ a' = { tmps := #[tyVal k n (.slice u1 u2 u3), .pointer (some ⟨w.heap.size, 0, none⟩), .pointer (some ⟨w.heap.size + 1, 0, none⟩), .pointer (some ⟨Bx, 0, none⟩), tyVal k n (.slice u1 u2 u3), .slice (some ⟨wa.heap.size, 0, none⟩) 1 1, .func (.func 98) #[] #[.pointer (some ⟨wa.heap.size + 1, 0, none⟩)], trV x, undef, undef, undef], defers := [] })
    (fun x a' s W W' row hs hg hr => by
      obtain ⟨Bx, ⟨c0, c1, c2⟩, ha⟩ := hs
      exact ⟨Bx, ⟨cell_kept c0 hg (fun r e => (hr r e).2), cell_kept c1 hg (fun r e => (hr r e).2), cell_kept c2 hg (fun r e => (hr r e).2)⟩, ha⟩) ?assign ?body ?done ?stop
  case assign =>
    rintro l pre x W K ⟨hi1, hi2, hi3⟩ hK
    obtain ⟨x0, x1, A3, n3, c3⟩ := x
    dsimp only [trV, slv] at hK ⊢
    have hsz := hi3.size
    gi_wp2
    exact hK _ _ ((KeepsOthers.alloc _ _).from _) (KpC.of_below ((Below.refl _ _).alloc (Nat.le_refl _) _) (by omega)) ⟨hi1, hi2.alloc _, hi3.alloc hsz _⟩ ⟨W.heap.size, ⟨by go_simp, by go_simp, by go_simp⟩, by simp [tyVal]⟩
  case body =>
    rintro l pre x a' W hl ⟨hi1, hi2, hi3⟩ ⟨Bx, ⟨c0, c1, c2⟩, rfl⟩ hlt
    obtain ⟨x0, x1, A3, n3, c3⟩ := x
    dsimp only [trV, slv, tyVal] at c0 c1 c2 ⊢
    obtain ⟨b, hb⟩ : ∃ b, alone x0 x1 n3 = b := ⟨_, rfl⟩
    have FA := Lib.hid (alone_any x0 x1 A3 n3 c3 W)
    rw [hb] at FA
    have hap : allAlone (pre ++ [(x0, x1, A3, n3, c3)]) = b := by
      have : allAlone (pre ++ [(x0, x1, A3, n3, c3)]) = (allAlone pre && alone x0 x1 n3) := by simp [allAlone]
      rw [this, hi1, hb]; rfl
    have HAP := Lib.hid hap
    have HSZ := Lib.hid hi3.size
    have HS4 := Lib.hid hs4
    have HSA := Lib.hid hsa
    clear hap hb hf hs4 hsa hs
    cases b
    · gi_wp2_with (refine ⟨trivial, ?_⟩; gi_at_call 75; refine (CallsIn.inRound l (callsIn_wide.2 FA.out)).mono ?_; rintro e w' ⟨rfl, hbw⟩; have hi2' : Boxed w' (w.heap.size + 1) 4 (.bool false) := (hbw.block _ hi2.lt).trans hi2; have bc := hi2'.cell; have bf := hi2'.frozen; have HB2 := Lib.hid hi2'; clear hi2')
      refine ⟨⟨Nat.le_trans hbw.size (KeepsOthers.setCell w' _ _).size, fun j o _ hj ho => (KeepsOthers.setCell w' _ _).same j o ((hbw.block j (Array.getElem?_eq_some_iff.1 hj).1).trans hj) ho⟩, ⟨rfl, HAP.out⟩, HB2.out.set _, ?_⟩
      have hb1 : Below w.heap.size w w' := hi3.trans (hbw.mono HSZ.out)
      exact hb1.trans ((Below.refl _ _).grown (grownBy_setCell' w' (w.heap.size + 1) _) hb1.size (fun k e => by cases e; omega))
    · gi_wp2_with (refine ⟨trivial, ?_⟩; gi_at_call 75; refine (CallsIn.inRound l (callsIn_wide.2 FA.out)).mono ?_; rintro e w' ⟨rfl, hbw⟩)
      refine ⟨⟨hbw.size, fun j o _ hj _ => (hbw.block j (Array.getElem?_eq_some_iff.1 hj).1).trans hj⟩, KpC.of_below hbw (Nat.le_trans hB HSZ.out), HAP.out, (hbw.block _ hi2.lt).trans hi2, hi3.trans (hbw.mono HSZ.out)⟩
  case done =>
    rintro D ys W hD rfl ⟨hi1, hi2, hi3⟩ hK
    have bc := hi2.cell
    have bf := hi2.frozen
    have HB2 := Lib.hid hi2
    have HA := Lib.hid hi1
    clear hi2 hi1 hf
    gi_wp2
    have bx : Boxed ((W.setCell ⟨w.heap.size + 1, 0, none⟩ (.bool true)).putObj D (.deferred none)) (w.heap.size + 1) 4 (.bool true) := (HB2.out.set _).kept (grownBy_putObj' _ D (.deferred none)) (fun e => by cases e; omega)
    have hK' : (W.setCell ⟨w.heap.size + 1, 0, none⟩ (.bool true)).heap[D]? = some (.deferred (some [])) := ((grownBy_setCell' W (w.heap.size + 1) (.bool true)).block D (Array.getElem?_eq_some_iff.1 hK).1 (fun e => by cases e; omega)).trans hK
    refine ⟨by simp, .inl ⟨_, _, rfl, run_takeDeferred hK', ?_⟩⟩
    refine ⟨_, results_box rfl _ _ _ _ rfl (load_bool bx.cell), ?_, ?_⟩
    · rw [HA.out]
    · have h1 := hi3.trans ((Below.refl _ _).grown (grownBy_setCell' W (w.heap.size + 1) (.bool true)) hi3.size (fun k e => by cases e; omega))
      exact h1.trans ((Below.refl _ _).grown (grownBy_putObj' _ D (.deferred none)) h1.size (fun k e => by cases e; omega))
  case stop =>
    rintro D c pre W hD ⟨hne, s, hsp⟩ ⟨⟨rfl, hi1⟩, hi2, hi3⟩ hK
    gi_wp2
    have bx : Boxed (W.putObj D (.deferred none)) (w.heap.size + 1) 4 (.bool false) := hi2.kept (grownBy_putObj' _ D (.deferred none)) (fun e => by cases e; omega)
    refine ⟨by simp, .inl ⟨_, _, rfl, run_takeDeferred hK, ?_⟩⟩
    refine ⟨_, results_box rfl _ _ _ _ rfl (load_bool bx.cell), ?_, hi3.trans ((Below.refl _ _).grown (grownBy_putObj' _ D (.deferred none)) hi3.size (fun k e => by cases e; omega))⟩
    have : allAlone (pre ++ s) = false := by
      have h2 : allAlone (pre ++ s) = (allAlone pre && allAlone s) := by simp [allAlone]
      rw [h2, hi1]; rfl
    rw [← hsp, this]
/-- Is it that variable? -/
def isVar (v : Int) (x : Tr) : Bool := x.1 == 1 && x.2.1 == v
end Go.Proofs.Ytcaclgaaaanfnaa
