/- Texts of one proof, one behind the other. -/
import Derived.Test.YtfoangiphbmipaaMgTermOrder4
import Derived.Test.YtfoangiphbmipaaMgTermOrder2
/- types.all's function: types and all that they are made of, each ahead of its parts. -/
namespace Go.Proofs.Ytfoangiphbmipaa
open Go.RowKit Go.Shelf
attribute [local go_sem] Oper.semAt_some

/-- The least number of its kind. -/
noncomputable def least (p : Nat → Prop) : Nat := Classical.epsilon fun k => p k ∧ ∀ j, p j → k ≤ j
theorem least_of {p : Nat → Prop} {k : Nat} (h : p k) : p (least p) ∧ least p ≤ k := by
  have hex : ∃ k, p k ∧ ∀ j, p j → k ≤ j := by
    induction k using Nat.strongRecOn with
    | ind k ih =>
      by_cases hk : ∃ j, j < k ∧ p j
      · obtain ⟨j, hj, hp⟩ := hk
        exact ih j hj hp
      · exact ⟨k, h, fun j hp => Nat.le_of_not_lt fun hlt => hk ⟨j, hlt, hp⟩⟩
  have := Classical.epsilon_spec hex
  exact ⟨this.1, this.2 k h⟩
/-- Between two rounds: what is left lies on the stack. -/
def AllInv (W : World) (B : Nat) (f : Fo) (J : List Tr → World → Prop) (i : Value) (wr : World) (k : Nat) : Prop :=
  ∃ (R : Fo) (pre : List Tr), R.size = k ∧ wr.ownsRow W.heap.size 24 3 i R.len (stk R) ∧ TyL B wr R ∧ pre ++ R.pre = f.pre ∧ J pre wr ∧ Below B W wr ∧ W.heap.size ≤ wr.heap.size
set_option maxRecDepth 100000 in
set_option maxHeartbeats 2000000 in
theorem all1 (n_ : Nat) (hn : 1 ≤ n_) (l Bs B : Nat) (vl : Value) (f : Fo) (hf : f.size ≤ 1000000) (J Jx : List Tr → World → Prop) (W : World) (hB : B ≤ W.heap.size) 
    (hJ : AbC W.heap.size 24 J)
    (hY : ∀ pre x W, J pre W → pre.length < f.size → YieldAt Fence.wide (n_ - 1) Try.prog l #[trV x] W fun e W' =>
      (e = .returned (.bool true) ∧ J (pre ++ [x]) W' ∧ KpC B W W') ∨ (e = .returned (.bool false) ∧ Jx (pre ++ [x]) W'))
    (hBs : Boxed W Bs 22 vl) (hR : RdX W.heap.size W vl f.top) (hL0 : TyL B W f) (h0 : J [] W) :
    CallsIn Fence.wide n_ Try.prog 50 #[.func (.yield l) #[] #[], .pointer (some ⟨Bs, 0, none⟩)] W fun e W' => (∃ v, e = .returned v) ∧
      ((∃ ys : List Tr, ys = f.pre ∧ J ys W') ∨ (∃ pre, (pre ≠ [] ∧ ∃ s, pre ++ s = f.pre) ∧ Jx pre W')) := by
  refine callsIn_of_wp Try.func50 rfl trivial ?_ rfl
  simp only [Try.ntmps50, List.size_toArray, List.length_cons, List.length_nil, Nat.reduceAdd, Nat.reduceSub, Array.replicate_succ, Array.replicate_zero, List.push_toArray, List.append_toArray, List.nil_append, List.cons_append]
  have e00 : W.cell? ⟨Bs, 0, none⟩ = some vl := hBs.cell
  obtain ⟨A, c, hv, _⟩ := id hR
  have HBS := Lib.hid hBs
  have HV := Lib.hid hv
  clear hBs hv
  have own0 : W.ownsRow W.heap.size 24 3 (.slice none 0 0) 0 [] := ⟨rfl, .inl ⟨rfl, rfl⟩⟩
  gi_wp2_with (refine ⟨trivial, ?_⟩; gi_at_call 51)
  refine (callsIn_wide.2 (backs_any W W.heap.size W.heap.size (.slice none 0 0) vl [] 0 f.top own0 (Nat.le_refl _) (Nat.le_refl _) hR (by rw [Fo.top_len]; exact Nat.le_trans f.len_le_size hf) (by omega))).mono ?_
  rintro e w0 ⟨v0, rfl, hown0, hg0, _⟩
  have hinv : AllInv W B f J v0 w0 f.size := by
    refine ⟨f, [], rfl, ?_, hL0.below ((Below.refl _ _).grown hg0 hB (fun k e => by cases e)), rfl, hJ _ _ _ h0 ⟨_, hg0, fun r e => by cases e⟩, (Below.refl _ _).grown hg0 hB (fun k e => by cases e), hg0.size⟩
    simpa [stk, Fo.top_len] using hown0
  clear hown0 hg0 h0 own0
  gi_wp2
  gi_loopw [3] (fun i wr => ∃ k, AllInv W B f J i wr k) (fun i wr => least (AllInv W B f J i wr))
  case atStart => exact ⟨_, hinv⟩
  case round =>
    obtain ⟨k, hk⟩ := hrel
    obtain ⟨⟨R, pre, hRk, hown, hL, hpre, hJs, hb, hsz⟩, _⟩ := least_of hk
    have HM := Lib.hid hRk
    clear hRk hk
    have HP := Lib.hid hpre
    clear hpre
    cases R with
    | nil =>
      obtain ⟨A1, c1, rfl, _, _⟩ := own_form hown
      dsimp only [Fo.len]
      gi_wp2
      go_end0
      exact ⟨⟨_, rfl⟩, .inl ⟨pre, by simpa [Fo.pre] using HP.out, hJs⟩⟩
    | cons k n u ps r =>
      have hpl : pre.length < f.size := by
        have h2 := congrArg List.length HP.out
        rw [List.length_append, Fo.pre_len, Fo.pre_len] at h2
        simp only [Fo.size] at h2
        omega
      have hrs : r.len ≤ 1000000 := by
        have h2 := congrArg List.length HP.out
        rw [List.length_append, Fo.pre_len, Fo.pre_len] at h2
        simp only [Fo.size] at h2
        have := r.len_le_size
        omega
      dsimp only [Fo.len] at hown
      obtain ⟨g, cp, rfl, hg1, hg2⟩ := own_shape hown (by omega)
      rw [stk_cons] at hown
      have hsl := stk_len r
      obtain ⟨hps, hLr⟩ := hL
      obtain ⟨q, hq⟩ : ∃ q, r.len = q := ⟨_, rfl⟩
      rw [hq] at hown hsl hrs ⊢
      have c0 : wr.cell? ⟨g, q * 3, none⟩ = some (.int .i64 k) := by rw [hown.cellAt _ (by omega), List.getElem?_append_right (by omega), hsl]; simp [trC]
      have c1 : wr.cell? ⟨g, q * 3 + 1, none⟩ = some (.int .i64 n) := by rw [hown.cellAt _ (by omega), List.getElem?_append_right (by omega), hsl]; simp [trC]
      have c2 : wr.cell? ⟨g, q * 3 + 2, none⟩ = some (slv u) := by rw [hown.cellAt _ (by omega), List.getElem?_append_right (by omega), hsl]; simp [trC]
      obtain ⟨u1, u2, u3⟩ := u
      dsimp only [slv] at c2
      have HQ := Lib.hid hq
      have HS := Lib.hid hsl
      have HO := Lib.hid hown
      clear hq hsl hown
      obtain ⟨W1, hW1⟩ : ∃ W1, W1 = wr.alloc (.cells #[.int .i64 k, .int .i64 n, .slice u1 u2 u3] 24) := ⟨_, rfl⟩
      have hJ1 : J pre W1 := by rw [hW1]; exact hJ _ _ _ hJs ⟨none, World.grownBy_alloc wr _ none, fun r e => by cases e⟩
      obtain ⟨fn, tmps, assign, body, hy, hR2⟩ := hY pre (k, n, (u1, u2, u3)) W1 hJ1 hpl
      dsimp only [trV, slv] at hy
      rw [hW1] at hy hR2
      have HW1 := Lib.hid hW1
      clear hW1
      gi_wp2
      refine hR2.mono ?_
      rintro e W3 (⟨rfl, hJ3, hk3⟩ | ⟨rfl, hJx3⟩)
      · have hbx : W3.heap[wr.heap.size]? = some (Obj.cells #[.int .i64 k, .int .i64 n, .slice u1 u2 u3] 24) := hk3.kept _ _ (World.alloc_heap_new wr _)
        have x2 : W3.cell? ⟨wr.heap.size, 2, none⟩ = some (.slice u1 u2 u3) := by
          have := cell_of_row W3 wr.heap.size 2 _ _ (0, 0) hbx
          rw [this]; rfl
        have hb3 : Below B W W3 := hb.trans (((Below.refl B wr).alloc (by omega) _).trans hk3.below)
        have hs3 : W.heap.size ≤ W3.heap.size := by have := hk3.below.size; simp at this; omega
        have own3 : W3.ownsRow W.heap.size 24 3 (.slice (some ⟨g, 0, none⟩) q cp) q (stk r) := own_cut (hk3.own (HO.out.alloc _)) q (by omega) HS.out
        have hps3 : TyV B W3 ps (slv (u1, u2, u3)) := hps.below (((Below.refl B wr).alloc (by omega) _).trans hk3.below)
        have hLr3 : TyL B W3 r := hLr.below (((Below.refl B wr).alloc (by omega) _).trans hk3.below)
        have hpn : ps.len ≤ 1000000 := by
          have h2 := congrArg List.length HP.out
          rw [List.length_append, Fo.pre_len, Fo.pre_len] at h2
          simp only [Fo.size] at h2
          have := ps.len_le_size
          omega
        have hcp : q + 1 ≤ cp := by
          obtain ⟨_, _, hv, h1, _⟩ := own_form HO.out
          injection hv with _ _ h3
          omega
        have FB := Lib.hid ((callsIn_wide (n := n_ - 1)).2 (backs_any W3.drew W.heap.size B (.slice (some ⟨g, 0, none⟩) q cp) (.slice u1 u2 u3) (stk r) q ps.top own3.drew hB hs3 (hps3.below (Below.refl B W3).drew).rd (by rw [Fo.top_len]; exact hpn) (by omega)))
        have hz : decide ((q : Int) ≤ (cp : Int)) = true := by simp; omega
        have hz0 : (0 : Int) ≤ (q : Int) := by omega
        have fin : ∀ (v' : Value) (w' : World), w'.ownsRow W.heap.size 24 3 v' (q + ps.top.length) (stk r ++ ps.top.reverse.flatMap trC) → W3.drew.grownBy w' (some g) → AllInv W B f J v' w' (ps.app r).size := by
          intro v' w' hown' hgd
          have hg' : W3.grownBy w' (some g) := ⟨hgd.os, hgd.tape, hgd.output, hgd.size, hgd.block⟩
          obtain ⟨_, cap, cur, hv, _, hgo, _⟩ := own3.2.resolve_left (by rintro ⟨h, _⟩; cases h)
          injection hv with hv _ _
          injection hv with hv
          injection hv with hv
          subst hv
          have hgB : Below B W3 w' := (Below.refl _ _).grown hg' (by omega) (fun k e => by cases e; omega)
          refine ⟨ps.app r, pre ++ [(k, n, (u1, u2, u3))], rfl, ?_, (hps3.list.below hgB).app (hLr3.below hgB), ?_, hJ _ _ _ hJ3 ⟨_, hg', fun r e => by cases e; exact ⟨hg1, _, hgo⟩⟩, hb3.trans hgB, Nat.le_trans hs3 hg'.size⟩
          · rw [stk_app, Fo.len_app, HQ.out, ← Fo.top_len ps, Nat.add_comm]
            exact hown'
          · rw [← HP.out, List.append_assoc, Fo.pre_next]; rfl
        have FN := Lib.hid fin
        have hmix : Try.prog.follows Departure.mixedOrders = true := by kernel_rfl
        clear hbx own3 hps3 hLr3 hb3 fin
        gi_wp2
        gi_region_with_o (refine ⟨trivial, ?_⟩; gi_at_call 51; refine FB.out.mono ?_; rintro e w4 ⟨v4, rfl, hown4, hg4, _⟩)
        all_goals
          have hfin := FN.out v4 w4 hown4 hg4
          clear hown4 hg4
          go_simp
          gi_wp2
          go_roundw
          case rel => exact ⟨_, hfin⟩
          case measure =>
            refine Nat.lt_of_le_of_lt (least_of hfin).2 (Nat.lt_of_lt_of_le ?_ (Nat.le_of_eq (HQ.out ▸ HM.out)))
            rw [Fo.size_app]
            simp only [Fo.size]
            omega
      · gi_wp2
        refine bodyPost_ret (results_none rfl _ _ _) rfl ?_
        exact ⟨⟨_, rfl⟩, .inr ⟨_, ⟨by simp, _, by rw [List.append_assoc, ← HP.out]; rfl⟩, hJx3⟩⟩
/-- types.all: the list is boxed, the function that comes has the box. -/
theorem all_make (A : Option Addr) (n c : Nat) (w : World) :
    Calls Try.prog 45 #[.slice A n c] w fun e w' => e = .returned (.func (.func 50) #[] #[.pointer (some ⟨w.heap.size, 0, none⟩)]) ∧ w' = w.alloc (.cells #[.slice A n c] 22) := by
  go_enter Try.func45, Try.ntmps45
  go_wp2
  go_ret
  exact ⟨rfl, rfl⟩
theorem RdX.mono {B C : Nat} {w : World} {v : Value} {L : List Tr} (h : RdX B w v L) (hC : B ≤ C) : RdX C w v L := by
  obtain ⟨A, c, hv, h⟩ := h
  refine ⟨A, c, hv, fun hn => ?_⟩
  obtain ⟨b, off, hA, hlt, hc⟩ := h hn
  exact ⟨b, off, hA, by omega, hc⟩
/-- Its contract, as an iterator's. -/
theorem all_seq (n : Nat) (hn : 1 ≤ n) (Bs B : Nat) (vl : Value) (f : Fo) (hf : f.size ≤ 1000000) (w : World) (hB : B ≤ w.heap.size) (hBs : Boxed w Bs 22 vl) (hR : RdX w.heap.size w vl f.top) (hL : TyL B w f) :
    SeqC n Try.prog 50 #[.pointer (some ⟨Bs, 0, none⟩)] 24 (fun x : Tr => #[trV x]) (KpC B) (fun ys => ys = f.pre) (fun pre => pre ≠ [] ∧ ∃ s, pre ++ s = f.pre) f.size w := by
  intro l J Jx W hW hJ _ hY h0
  exact all1 n hn l Bs B vl f hf J Jx W (Nat.le_trans hB hW.size) hJ hY ((hW.block Bs hBs.lt).trans hBs) ((hR.below hW).mono hW.size) (hL.below (hW.mono hB)) h0
end Go.Proofs.Ytfoangiphbmipaa
/- types.change: a type in new memory, its variables' numbers changed: what lies in memory between the rounds. -/
namespace Go.Proofs.Ytfoangiphbmipaa
open Go.RowKit

/-- A hole, in a world. -/
def HoleAt (T : TypeId) (rt B : Nat) (w : World) (h : Hole) : Prop :=
  B ≤ h.b ∧ isT T rt w h.b ∧ w.cell? ⟨h.b, h.off, none⟩ = some (.int .i64 h.k) ∧ w.cell? ⟨h.b, h.off + 1, none⟩ = some (.int .i64 h.n) ∧ w.cell? ⟨h.b, h.off + 2, none⟩ = some (slv h.u) ∧ TyV B w h.ps (slv h.u)
def ptrs (Hs : List Hole) : List Value := Hs.map fun h => .pointer (some ⟨h.b, h.off, none⟩)
theorem ptrs_len (Hs : List Hole) : (ptrs Hs).length = Hs.length := by simp [ptrs]
theorem ptrs_app (a b : List Hole) : ptrs (a ++ b) = ptrs a ++ ptrs b := by simp [ptrs]
theorem ptrs_one (a : List Hole) : ∀ u ∈ ptrs a, u.oneCell' = true := by
  intro u hu
  obtain ⟨h, _, rfl⟩ := List.mem_map.1 hu
  rfl
/-- A type's cells, new. -/
def rt0 : Array Value := #[.int .i64 0, .int .i64 0, .slice none 0 0]
/-- Between two rounds. -/
def ChInv (num : Int → Int) (T P : TypeId) (w0 : World) (rt rb : Nat) (k n : Int) (ps : Fo) (t : Value) (w : World) (s : Nat) : Prop :=
  ∃ Hs : List Hole, left_ Hs = s ∧ s ≤ 1000000 ∧ w.ownsRow w0.heap.size P 1 t Hs.length (ptrs Hs) ∧ (∀ h ∈ Hs, HoleAt T rt w0.heap.size w h) ∧ Hs.Pairwise Apart ∧
    Wand num T rt w0.heap.size rb k n ps w Hs ∧ Below w0.heap.size w0 w ∧ w.heap[rt]? = some (Obj.cells rt0 T) ∧ w0.heap.size ≤ rt ∧ isT T rt w rb
/-- A block of one's own, new and full. -/
theorem own_full (w : World) (H : Nat) (hH : H ≤ w.heap.size) (e : TypeId) (size n : Nat) (L : List Value) (hL : L.length = n * size) (hn : n ≤ maxLen) : (w.alloc (.cells L.toArray e)).ownsRow H e size (.slice (some ⟨w.heap.size, 0, none⟩) n n) n L :=
  ⟨hL, .inr ⟨w.heap.size, n, L.toArray, rfl, hH, heap_alloc_new w _, Nat.le_refl _, hn, by simp [hL], by simp [← hL]⟩⟩
theorem cell_of_isT {w w' : World} {b : Nat} (h : w'.heap[b]? = w.heap[b]?) (off : Nat) : w'.cell? ⟨b, off, none⟩ = w.cell? ⟨b, off, none⟩ := World.cell?_of_block h
theorem frozen_cells {w : World} {b : Nat} {cs : Array Value} {T : TypeId} (h : w.heap[b]? = some (Obj.cells cs T)) (off : Nat) : w.frozen? ⟨b, off, none⟩ = false := by
  simp [World.frozen?, h]
/-- What a step of the walk leaves as it is: every block of types. -/
def KeepT (T : TypeId) (w w' : World) : Prop := w.heap.size ≤ w'.heap.size ∧ ∀ (b : Nat) (cs : Array Value), w.heap[b]? = some (Obj.cells cs T) → w'.heap[b]? = some (Obj.cells cs T)
theorem KeepT.refl (T : TypeId) (w : World) : KeepT T w w := ⟨Nat.le_refl _, fun _ _ h => h⟩
theorem KeepT.trans {T : TypeId} {a b c : World} (h : KeepT T a b) (k : KeepT T b c) : KeepT T a c := ⟨Nat.le_trans h.1 k.1, fun i cs hi => k.2 i cs (h.2 i cs hi)⟩
theorem KeepT.alloc {T : TypeId} {a b : World} (h : KeepT T a b) (o : Obj) : KeepT T a (b.alloc o) :=
  ⟨by simp only [World.size_alloc]; exact Nat.le_succ_of_le h.1, fun i cs hi => (Below.heap_alloc _ _ _ (Array.getElem?_eq_some_iff.1 (h.2 i cs hi)).1).trans (h.2 i cs hi)⟩
theorem KeepT.grown {T : TypeId} {a b : World} {row : Option Nat} (hg : a.grownBy b row) (hr : ∀ (r : Nat), row = some r → ∀ (cs : Array Value), a.heap[r]? ≠ some (Obj.cells cs T)) : KeepT T a b :=
  ⟨hg.size, fun i cs hi => (hg.block i (Array.getElem?_eq_some_iff.1 hi).1 (fun e => hr i e.symm cs hi)).trans hi⟩
theorem KeepT.isT {T : TypeId} {rt : Nat} {w w' : World} (h : KeepT T w w') {b : Nat} (hb : isT T rt w b) : isT T rt w' b := by
  obtain ⟨hne, cs, hc⟩ := hb
  exact ⟨hne, cs, h.2 b cs hc⟩
theorem KeepT.cell {T : TypeId} {rt : Nat} {w w' : World} (h : KeepT T w w') {b : Nat} (hb : Go.Proofs.Ytfoangiphbmipaa.isT T rt w b) (off : Nat) : w'.cell? ⟨b, off, none⟩ = w.cell? ⟨b, off, none⟩ := by
  obtain ⟨_, cs, hc⟩ := hb
  exact World.cell?_of_block ((h.2 b cs hc).trans hc.symm)
/-- A row of another kind of things is no block of types. -/
theorem row_not {w : World} {base : Nat} {e T : TypeId} {size : Nat} {v : Value} {n : Nat} {xs : List Value} (h : w.ownsRow base e size v n xs) (hne : e ≠ T) : ∀ (r : Nat), v.ownBlock = some r → ∀ (cs : Array Value), w.heap[r]? ≠ some (Obj.cells cs T) := by
  intro r hr cs hc
  rcases h.2 with ⟨rfl, _⟩ | ⟨g, cap, cur, rfl, _, hg, _⟩
  · cases hr
  · obtain rfl : g = r := by simpa [Value.ownBlock] using hr
    rw [hg] at hc
    injection hc with hc
    injection hc with _ h2 _
    exact hne h2
/-- What a step touches: a hole's cells alone (and what is no block of types). -/
structure Tch (T : TypeId) (rt B : Nat) (h : Hole) (w w' : World) : Prop where
  below : Below B w w'
  kept : ∀ b, Go.Proofs.Ytfoangiphbmipaa.isT T rt w b → Go.Proofs.Ytfoangiphbmipaa.isT T rt w' b
  cell : ∀ b off, Go.Proofs.Ytfoangiphbmipaa.isT T rt w b → Aside [h] b off → w'.cell? ⟨b, off, none⟩ = w.cell? ⟨b, off, none⟩
  rt : ∀ cs, w.heap[rt]? = some (Obj.cells cs T) → w'.heap[rt]? = some (Obj.cells cs T)
theorem Tch.refl (T : TypeId) (rt B : Nat) (h : Hole) (w : World) : Tch T rt B h w w := ⟨Below.refl _ _, fun _ h => h, fun _ _ _ _ => rfl, fun _ h => h⟩
theorem Tch.trans {T : TypeId} {rt B : Nat} {h : Hole} {a b c : World} (x : Tch T rt B h a b) (y : Tch T rt B h b c) : Tch T rt B h a c :=
  ⟨x.below.trans y.below, fun i hi => y.kept i (x.kept i hi), fun i off hi ha => (y.cell i off (x.kept i hi) ha).trans (x.cell i off hi ha), fun cs h => y.rt cs (x.rt cs h)⟩
theorem Tch.keep {T : TypeId} {rt B : Nat} {h : Hole} {a b : World} (k : KeepT T a b) (hb : Below B a b) : Tch T rt B h a b :=
  ⟨hb, fun _ hi => k.isT hi, fun _ off hi _ => k.cell hi off, fun _ hc => k.2 _ _ hc⟩
theorem Tch.set {T : TypeId} {rt B : Nat} {h : Hole} {w : World} (j : Nat) (hj : j < 3) (hT : Go.Proofs.Ytfoangiphbmipaa.isT T rt w h.b) (hB : B ≤ h.b) (v : Value) : Tch T rt B h w (w.setCell ⟨h.b, h.off + j, none⟩ v) := by
  obtain ⟨hne, cs, hc⟩ := hT
  refine ⟨(Below.refl B w).setCell (p := ⟨h.b, h.off + j, none⟩) hB v, fun b ⟨hb, cs2, hc2⟩ => ⟨hb, ?_⟩, fun b off _ ha => ?_, fun cs2 hc2 => ?_⟩
  · by_cases e : b = h.b
    · subst e; exact ⟨_, heap_setCell_same w _ _ cs T v hc⟩
    · exact ⟨cs2, (Below.heap_setCell _ _ _ _ e).trans hc2⟩
  · refine World.cell?_setCell_other _ _ _ _ ?_
    intro e
    injection e with e1 e2
    rcases ha h (List.mem_singleton.2 rfl) e1 with h' | h' <;> omega
  · exact (Below.heap_setCell _ _ _ _ (fun e => hne e.symm)).trans hc2
theorem own_touch {T e : TypeId} {h : Hole} {w : World} {base size n : Nat} {v : Value} {xs : List Value} (ho : w.ownsRow base e size v n xs) (hT : ∃ cs, w.heap[h.b]? = some (Obj.cells cs T)) (hne : e ≠ T) (off : Nat) (u : Value) : (w.setCell ⟨h.b, off, none⟩ u).ownsRow base e size v n xs := by
  obtain ⟨cs, hc⟩ := hT
  refine ho.kept (row := some h.b) ⟨rfl, rfl, rfl, by simp [World.setCell], fun k _ hk => Below.heap_setCell _ _ _ k (fun e => hk (by rw [e]))⟩ (.inr fun e => ?_)
  exact row_not ho hne _ e cs hc
theorem holes_at {T : TypeId} {rt B c : Nat} {w : World} (hB : B ≤ c) (hT : Go.Proofs.Ytfoangiphbmipaa.isT T rt w c) (f : Fo) (off : Nat) (hc : ∀ j u, (f.top.flatMap trC)[j]? = some u → w.cell? ⟨c, off + j, none⟩ = some u) (hL : TyL B w f) : ∀ h ∈ holesOf c off f, HoleAt T rt B w h := by
  induction f generalizing off with
  | nil => intro h hh; simp [holesOf] at hh
  | cons k n u ps r _ ih =>
    intro h hh
    simp only [holesOf, List.mem_cons] at hh
    simp only [Fo.top, List.flatMap_cons, trC, List.cons_append, List.nil_append] at hc
    rcases hh with rfl | hh
    · exact ⟨hB, hT, hc 0 _ rfl, hc 1 _ rfl, hc 2 _ rfl, hL.1⟩
    · refine ih (off + 3) (fun j x hx => ?_) hL.2 h hh
      rw [Nat.add_assoc, Nat.add_comm 3 j]
      exact hc (j + 3) x (by simpa using hx)
/-- A round, put together. -/
theorem ch_step {num : Int → Int} {T P : TypeId} {w : World} {rt rb : Nat} {k n : Int} {ps : Fo} {wr w5 : World} {Hq : List Hole} {h : Hole} {t5 : Value} {c m : Nat} {u2 : Sl}
    (hat : ∀ x ∈ Hq ++ [h], HoleAt T rt w.heap.size wr x) (hap : (Hq ++ [h]).Pairwise Apart) (hwd : Wand num T rt w.heap.size rb k n ps wr (Hq ++ [h])) (hb : Below w.heap.size w wr) (hrt : wr.heap[rt]? = some (Obj.cells rt0 T)) (hrt2 : w.heap.size ≤ rt) (hrb : Go.Proofs.Ytfoangiphbmipaa.isT T rt wr rb)
    (hsm : left_ (Hq ++ [h]) ≤ 1000000) (t : Tch T rt w.heap.size h wr w5) (hm : h.ps.len = m) (hc : wr.heap.size ≤ c)
    (c0 : w5.cell? ⟨h.b, h.off, none⟩ = some (.int .i64 h.k)) (c1 : w5.cell? ⟨h.b, h.off + 1, none⟩ = some (.int .i64 (nm num h.k h.n))) (c2 : w5.cell? ⟨h.b, h.off + 2, none⟩ = some (slv u2))
    (hu : (m = 0 ∧ ∃ A cp, u2 = (A, 0, cp)) ∨ (0 < m ∧ (∃ cs, w5.heap[c]? = some (Obj.cells cs T)) ∧ (∀ j u, (h.ps.top.flatMap trC)[j]? = some u → w5.cell? ⟨c, j, none⟩ = some u) ∧ ∃ cp, u2 = (some ⟨c, 0, none⟩, m, cp) ∧ m ≤ cp ∧ cp ≤ maxLen))
    (hown : w5.ownsRow w.heap.size P 1 t5 (Hq.length + m) (ptrs Hq ++ ptrs (holesOf c 0 h.ps))) : ChInv num T P w rt rb k n ps t5 w5 (left_ Hq + h.ps.size) := by
  subst hm
  obtain ⟨hbB, hT, d0, d1, d2, hv⟩ := hat h (List.mem_append_right _ (List.mem_singleton.2 rfl))
  have hrl : rt < wr.heap.size := (Array.getElem?_eq_some_iff.1 hrt).1
  have hpa : ∀ x ∈ Hq, Apart x h := by
    intro x hx
    exact (List.pairwise_append.1 hap).2.2 x hx h (List.mem_singleton.2 rfl)
  have hlt : ∀ x ∈ Hq, x.b < wr.heap.size := fun x hx => (hat x (List.mem_append_left _ hx)).2.1.lt
  refine ⟨Hq ++ holesOf c 0 h.ps, by rw [left_app, left_holes], ?_, by rw [List.length_append, holesOf_len, ptrs_app]; exact hown, ?_, ?_, ?_, hb.trans t.below, t.rt _ hrt, hrt2, t.kept _ hrb⟩
  · rw [left_app] at hsm
    simp only [left_, List.map_cons, List.map_nil, List.sum_cons, List.sum_nil] at hsm ⊢
    omega
  · intro x hx
    rcases List.mem_append.1 hx with hx | hx
    · obtain ⟨xB, xT, x0, x1, x2, xv⟩ := hat x (List.mem_append_left _ hx)
      have ha : ∀ j, j < 3 → Aside [h] x.b (x.off + j) := by
        intro j hj y hy hyb
        have hyh : y = h := by simpa using hy
        rw [hyh] at hyb ⊢
        rcases hpa x hx hyb.symm with h' | h'
        · exact .inl (by omega)
        · exact .inr (by omega)
      exact ⟨xB, t.kept _ xT, (t.cell _ _ xT (ha 0 (by omega))).trans x0, (t.cell _ _ xT (ha 1 (by omega))).trans x1, (t.cell _ _ xT (ha 2 (by omega))).trans x2, xv.below t.below⟩
    · rcases hu with ⟨h0, _⟩ | ⟨_, hcT, hcc, _⟩
      · exfalso
        have := holesOf_len c 0 h.ps
        rw [h0] at this
        rw [List.eq_nil_of_length_eq_zero this] at hx
        cases hx
      · exact holes_at (Nat.le_trans hb.size hc) ⟨by omega, hcT⟩ h.ps 0 (fun j u hj => by rw [Nat.zero_add]; exact hcc j u hj) (hv.list.below t.below) x hx
  · refine List.pairwise_append.2 ⟨(List.pairwise_append.1 hap).1, holesOf_apart _ _ _, fun x hx y hy e => ?_⟩
    have := hlt x hx
    have := (holesOf_b hy).1
    omega
  · refine hwd.step hpa hbB hT t.below.size (fun b off _ hbT => ⟨t.kept b hbT, fun ha => t.cell b off hbT ha⟩) c0 c1 c2 hc ?_
    rcases hu with h0 | ⟨hp, ⟨cs, hcs⟩, _, cp, e, h1, h2⟩
    · exact .inl h0
    · exact .inr ⟨hp, (Array.getElem?_eq_some_iff.1 hcs).1, cp, e, h1, h2⟩
theorem ptrs_take (c : Nat) (f : Fo) (off j : Nat) (hj : j < f.len) : ptrs ((holesOf c off f).take (j + 1)) = ptrs ((holesOf c off f).take j) ++ [.pointer (some ⟨c, off + j * 3, none⟩)] := by
  induction f generalizing off j with
  | nil => simp [Fo.len] at hj
  | cons k n u ps r _ ih =>
    cases j with
    | zero => simp [holesOf, ptrs]
    | succ j =>
      have := ih (off + 3) j (by simp [Fo.len] at hj; omega)
      simp only [holesOf, List.take_succ_cons, ptrs, List.map_cons, List.cons_append] at this ⊢
      rw [this, show off + 3 + j * 3 = off + (j + 1) * 3 by omega]
/-- A list of types in new memory: it hangs on blocks of types from B on alone. -/
def FreshT (T : TypeId) (B : Nat) (w : World) (num : Int → Int) (ps : Fo) (u : Sl) : Prop :=
  ∀ W : World, w.heap.size ≤ W.heap.size → (∀ (b : Nat) (cs : Array Value), B ≤ b → w.heap[b]? = some (Obj.cells cs T) → W.heap[b]? = some (Obj.cells cs T)) → ∃ g, Img num ps g ∧ TyV W.heap.size W g (slv u)
theorem FreshT.now {T : TypeId} {B : Nat} {w : World} {num : Int → Int} {ps : Fo} {u : Sl} (h : FreshT T B w num ps u) : ∃ g, Img num ps g ∧ TyV w.heap.size w g (slv u) := h w (Nat.le_refl _) fun _ _ _ h => h
theorem FreshT.mono {T : TypeId} {B C : Nat} {w : World} {num : Int → Int} {ps : Fo} {u : Sl} (h : FreshT T B w num ps u) (hC : C ≤ B) : FreshT T C w num ps u := fun W hs hc => h W hs fun b cs hb hl => hc b cs (Nat.le_trans hC hb) hl
theorem FreshT.to {T : TypeId} {B : Nat} {w w' : World} {num : Int → Int} {ps : Fo} {u : Sl} (h : FreshT T B w num ps u) (hs : w.heap.size ≤ w'.heap.size) (hc : ∀ (b : Nat) (cs : Array Value), B ≤ b → w.heap[b]? = some (Obj.cells cs T) → w'.heap[b]? = some (Obj.cells cs T)) : FreshT T B w' num ps u :=
  fun W hs' hc' => h W (Nat.le_trans hs hs') fun b cs hb hl => hc' b cs hb (hc b cs hb hl)
theorem FreshT.below {T : TypeId} {B : Nat} {w w' : World} {num : Int → Int} {ps : Fo} {u : Sl} (h : FreshT T B w num ps u) (hb : Below w.heap.size w w') : FreshT T B w' num ps u :=
  h.to hb.size fun b _ _ hl => (hb.block b (Array.getElem?_eq_some_iff.1 hl).1).trans hl
abbrev idn : Int → Int := fun n => n
theorem nm_id (k n : Int) : nm idn k n = n := by simp [nm]
end Go.Proofs.Ytfoangiphbmipaa
/- types.Size, types.Right, types.Has. -/
namespace Go.Proofs.Ytfoangiphbmipaa
open Go.RowKit Go.Shelf
attribute [local go_sem] Oper.semAt_some

theorem results_box {P : Program} {fn : Func} {p : Tmp} {ty : TypeId} (h : fn.results = #[.cell p ty]) (tmps : Array Value) (w : World) (g : Nat) (v : Value)
    (hp : tmps.getD p undef = .pointer (some ⟨g, 0, none⟩)) (hl : (loadVar ty ⟨g, 0, none⟩).run P w = .ok v w) : (results fn tmps).run P w = .ok v w := by
  have hp' : tmps[p]?.getD undef = .pointer (some ⟨g, 0, none⟩) := by simpa using hp
  simp [results, h, hp', asAddr, hl]
/-- A type, loaded. -/
theorem load_ty {w : World} {g : Nat} {k n : Int} {u : Sl} (h0 : w.cell? ⟨g, 0, none⟩ = some (.int .i64 k)) (h1 : w.cell? ⟨g, 1, none⟩ = some (.int .i64 n)) (h2 : w.cell? ⟨g, 2, none⟩ = some (slv u)) : (loadVar 24 ⟨g, 0, none⟩).run Try.prog w = .ok (tyVal k n (slv u)) w := by
  unfold slv at h2
  unfold tyVal slv
  go_simp
theorem below_own {β : Type} {B C : Nat} {w : World} (hC : C ≤ B) (hw : C ≤ w.heap.size) : OwnFrom B (fun (_ : β) W => Below C w W) := by
  intro s X Y row hs hg hr
  refine ⟨hg.os.trans hs.os, hg.tape.trans hs.tape, hg.output.trans hs.output, Nat.le_trans hs.size hg.size, fun k hk => ?_⟩
  exact (hg.block k (Nat.lt_of_lt_of_le hk (Nat.le_trans hw hs.size)) (fun e => by have := (hr k e.symm).1; omega)).trans (hs.block k hk)
theorem below_ab {β : Type} {B C : Nat} {t : TypeId} {w : World} (hC : C ≤ B) (hw : C ≤ w.heap.size) : AbC B t (fun (_ : β) W => Below C w W) := fun _ _ _ hs hc => hs.trans (hc.below hC (Nat.le_trans hw hs.size))
theorem box_ab {β : Type} {B b : Nat} {t u : TypeId} {f : β → Value} (hne : u ≠ t) : AbC B t (fun s W => Boxed W b u (f s)) := fun _ _ _ hs hc => hc.box hne hs
theorem KpC.box {B b : Nat} {W : World} {u : TypeId} {v : Value} (hb : Boxed W b u v) (hne : u ≠ 24) (hB : B ≤ b) (hw : B ≤ W.heap.size) (v' : Value) : KpC B W (W.setCell ⟨b, 0, none⟩ v') := by
  have hg := grownBy_setCell' W b v'
  refine ⟨(Below.refl B W).grown hg hw (fun k e => by cases e; exact hB), fun k cs hk => (hg.block k (Array.getElem?_eq_some_iff.1 hk).1 fun e => ?_).trans hk⟩
  cases e
  rw [show W.heap[b]? = _ from hb] at hk
  cases hk
  exact hne rfl
/-- One type, laid as a list, and boxed. -/
theorem one_laid {B : Nat} {w : World} (k n : Int) (u : Sl) (ps : Fo) (hB : B ≤ w.heap.size) (hps : TyV B w ps (slv u)) :
    ∃ W, (w.alloc (.cells #[.int .i64 k, .int .i64 n, slv u] 24)).alloc (.cells #[.slice (some ⟨w.heap.size, 0, none⟩) 1 1] 22) = W ∧ W.heap.size = w.heap.size + 1 + 1 ∧
      Boxed W (w.heap.size + 1) 22 (.slice (some ⟨w.heap.size, 0, none⟩) 1 1) ∧ RdX W.heap.size W (.slice (some ⟨w.heap.size, 0, none⟩) 1 1) (Fo.cons k n u ps .nil).top ∧ TyL B W (.cons k n u ps .nil) ∧ Below w.heap.size w W := by
  have hb : Below w.heap.size w ((w.alloc (.cells #[.int .i64 k, .int .i64 n, slv u] 24)).alloc (.cells #[.slice (some ⟨w.heap.size, 0, none⟩) 1 1] 22)) := ((Below.refl _ w).alloc (Nat.le_refl _) _).alloc (by simp) _
  refine ⟨_, rfl, by simp, ?_, ?_, ⟨hps.below (hb.mono hB), trivial⟩, hb⟩
  · have := Boxed.new (w.alloc (.cells #[.int .i64 k, .int .i64 n, slv u] 24)) 22 (.slice (some ⟨w.heap.size, 0, none⟩) 1 1)
    rwa [World.size_alloc] at this
  · refine ⟨_, 1, rfl, fun _ => ⟨w.heap.size, 0, rfl, by simp only [World.size_alloc]; omega, fun i hi => ?_⟩⟩
    obtain rfl : i = 0 := by simp [Fo.top] at hi; omega
    simp only [Fo.top, List.getElem_cons_zero, Nat.zero_mul, Nat.add_zero, Nat.zero_add]
    have hc : ∀ (j : Nat) (v : Value), [Value.int .i64 k, .int .i64 n, slv u][j]? = some v → ((w.alloc (.cells #[.int .i64 k, .int .i64 n, slv u] 24)).alloc (.cells #[.slice (some ⟨w.heap.size, 0, none⟩) 1 1] 22)).cell? ⟨w.heap.size, j, none⟩ = some v := by
      intro j v hv
      have h1 := cells_new w [.int .i64 k, .int .i64 n, slv u] 24 j v hv
      rw [add_lit0] at h1
      exact (((Below.refl (w.heap.size + 1) (w.alloc (.cells #[.int .i64 k, .int .i64 n, slv u] 24))).alloc (by simp) _).cell (p := ⟨w.heap.size, j, none⟩) (by simp)).trans h1
    exact ⟨hc 0 _ rfl, hc 1 _ rfl, hc 2 _ rfl⟩
end Go.Proofs.Ytfoangiphbmipaa
/- The answer's Depth. -/
namespace Go.Proofs.Ytfoangiphbmipaa
open Go.RowKit

namespace Fo
theorem depth_app (f g : Fo) : (f.app g).depth = max f.depth g.depth := by
  induction f with
  | nil => simp [app, depth]
  | cons k n u ps r _ ih => simp [app, depth, ih] <;> omega
theorem depth_le_size (f : Fo) : f.depth ≤ f.size := by
  induction f with
  | nil => simp [depth]
  | cons k n u ps r ih1 ih2 => simp only [depth, size]; omega
theorem depth_take_step (f : Fo) (j : Nat) (hj : j < f.len) : (f.take (j + 1)).depth = max (f.take j).depth (1 + (f.at_ j).2.2.2.depth) := by
  rw [take_step f j hj, depth_app]
  simp [depth]
theorem depth_take_le (f : Fo) (j : Nat) : (f.take j).depth ≤ f.depth := by
  induction f generalizing j with
  | nil => cases j <;> simp [take]
  | cons k n u ps r _ ih =>
    cases j with
    | zero => simp [take, depth]
    | succ j => have := ih j; simp only [take, depth]; omega
end Fo
end Go.Proofs.Ytfoangiphbmipaa
