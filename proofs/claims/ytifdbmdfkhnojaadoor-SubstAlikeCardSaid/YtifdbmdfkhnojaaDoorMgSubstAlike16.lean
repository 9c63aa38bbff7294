/- Texts of one proof, one behind the other. -/
import Derived.Test.YtifdbmdfkhnojaaDoorMgSubstAlike14
import Derived.Test.YtifdbmdfkhnojaaDoorMgSubstAlike10
/- slices.Backward at pieces. -/
namespace Go.Proofs.YtifdbmdfkhnojaaDoor
open Go.RowKit Go.Shelf
attribute [local go_sem] Oper.semAt_some

/-- Blocks of cells that stand. -/
def KpQ (ks : List Nat) (W W' : World) : Prop := ∀ k ∈ ks, ∀ o, W.heap[k]? = some o → o.isCells = true → W'.heap[k]? = some o
theorem KpQ.t {ks : List Nat} {X Y Z : World} (h : KpQ ks X Y) (k : KpQ ks Y Z) : KpQ ks X Z := fun i hi o ho hc => k i hi o (h i hi o ho hc) hc
theorem KpQ.b {ks : List Nat} {w : World} (W : World) (l : Nat) (o o' : Obj) (_ : w.heap.size ≤ l) (h : W.heap[l]? = some o) (h1 : o.isCells = false) (_ : o.isWalk = false) : KpQ ks W (W.putObj l o') := by
  intro k _ o2 ho hc
  have hne : k ≠ l := by
    rintro rfl
    rw [h] at ho
    injection ho with ho
    subst ho
    rw [h1] at hc; cases hc
  exact ((grownBy_putObj' W l o').block k (Array.getElem?_eq_some_iff.1 ho).1 (fun e => hne (by cases e; rfl))).trans ho
/-- A slice of pieces: nothing, or the cells of a block. -/
def RdO (gp : Nat) (W : World) (v : Value) (L : List Pc) : Prop := (L = [] ∧ v = .slice none 0 0) ∨ ∃ cap cur, v = .slice (some ⟨gp, 0, none⟩) L.length cap ∧ W.heap[gp]? = some (Obj.cells cur 84) ∧ cur.toList.take (L.length * 4) = L.flatMap pcC
theorem RdO.of_own {W : World} {base : Nat} {v : Value} {L : List Pc} (g0 : Nat) (h : W.ownsRow base 84 4 v L.length (L.flatMap pcC)) : ∃ gp, RdO gp W v L ∧ (gp = g0 ∨ base ≤ gp ∧ gp < W.heap.size) := by
  rcases h.2 with ⟨h0, h1⟩ | ⟨g, cap, cur, h0, h1, h2, h3, h4, h5, h6⟩
  · exact ⟨g0, .inl ⟨List.eq_nil_of_length_eq_zero h1, h0⟩, .inl rfl⟩
  · exact ⟨g, .inr ⟨cap, cur, h0, h2, h6⟩, .inr ⟨h1, (Array.getElem?_eq_some_iff.1 h2).1⟩⟩
theorem RdO.keep {gp : Nat} {W W' : World} {v : Value} {L : List Pc} (h : RdO gp W v L) (hk : ∀ o, W.heap[gp]? = some o → o.isCells = true → W'.heap[gp]? = some o) : RdO gp W' v L := by
  rcases h with h | ⟨cap, cur, h1, h2, h3⟩
  · exact .inl h
  · exact .inr ⟨cap, cur, h1, hk _ h2 rfl, h3⟩
theorem flat_pc (L : List Pc) (i j : Nat) (hi : i < L.length) (u : Value) (hu : (pcC L[i])[j]? = some u) : (L.flatMap pcC)[i * 4 + j]? = some u := by
  induction L generalizing i with
  | nil => simp at hi
  | cons x l ih =>
    cases i with
    | zero =>
      simp only [List.getElem_cons_zero] at hu
      rw [List.flatMap_cons, List.getElem?_append_left (by have := (List.getElem?_eq_some_iff.1 hu).1; omega)]
      simpa using hu
    | succ i =>
      simp only [List.getElem_cons_succ] at hu
      have := ih i (by simpa using hi) hu
      rw [List.flatMap_cons, List.getElem?_append_right (by simp [pcC]; omega)]
      rw [show (pcC x).length = 4 from rfl, show (i + 1) * 4 + j - 4 = i * 4 + j by omega]
      exact this
theorem RdO.cell {gp : Nat} {W : World} {A : Option Addr} {n c : Nat} {L : List Pc} (h : RdO gp W (.slice A n c) L) (i : Nat) (hi : i < L.length) : n = L.length ∧ A = some ⟨gp, 0, none⟩ ∧ W.cell? ⟨gp, i * 4, none⟩ = some (strB L[i].s) ∧ W.cell? ⟨gp, i * 4 + 1, none⟩ = some (.int .i64 L[i].k) ∧ W.cell? ⟨gp, i * 4 + 2, none⟩ = some (.int .i64 L[i].n) ∧ W.cell? ⟨gp, i * 4 + 3, none⟩ = some (slv L[i].u) := by
  rcases h with ⟨h, _⟩ | ⟨cap, cur, h1, h2, h3⟩
  · subst h; simp at hi
  · injection h1 with e1 e2 e3
    have key : ∀ j u, (pcC L[i])[j]? = some u → W.cell? ⟨gp, i * 4 + j, none⟩ = some u := by
      intro j u hu
      have hj : j < 4 := (List.getElem?_eq_some_iff.1 hu).1
      have hf := flat_pc L i j hi u hu
      rw [← h3, List.getElem?_take, if_pos (by omega)] at hf
      rw [cell_of_row W gp (i * 4 + j) cur _ (0, 0) h2]
      simpa using hf
    exact ⟨e2, e1, key 0 _ rfl, key 1 _ rfl, key 2 _ rfl, key 3 _ rfl⟩
set_option maxRecDepth 100000 in
set_option maxHeartbeats 2000000 in
theorem back1P (n : Nat) (hn : 1 ≤ n) (l Bs gp : Nat) (A : Option Addr) (c : Nat) (L : List Pc) (hL : L.length ≤ 10000000) (J Jx : List (Int × Pc) → World → Prop)
    (hY : ∀ pre x W, J pre W → pre.length < L.length → YieldAt Fence.wide (n - 1) Tryd.prog l #[.int .i64 x.1, pcV x.2] W fun e W' =>
      (e = .returned (.bool true) ∧ J (pre ++ [x]) W' ∧ KpQ [gp, Bs] W W') ∨ (e = .returned (.bool false) ∧ Jx (pre ++ [x]) W'))
    (W : World) (hBs : Boxed W Bs 85 (.slice A L.length c)) (hR : RdO gp W (.slice A L.length c) L) (h0 : J [] W) :
    CallsIn Fence.wide n Tryd.prog 68 #[.func (.yield l) #[] #[], .pointer (some ⟨Bs, 0, none⟩)] W fun e W' => (∃ v, e = .returned v) ∧
      ((∃ ys : List (Int × Pc), ys.map (·.2) = L.reverse ∧ J ys W') ∨ (∃ pre, Jx pre W')) := by
  refine callsIn_of_wp Tryd.func68 rfl trivial ?_ rfl
  simp only [Tryd.ntmps68, List.size_toArray, List.length_cons, List.length_nil, Nat.reduceAdd, Nat.reduceSub, Array.replicate_succ, Array.replicate_zero, List.push_toArray, List.append_toArray, List.nil_append, List.cons_append]
  have e00 : W.cell? ⟨Bs, 0, none⟩ = some (.slice A L.length c) := hBs.cell
  have HBS := Lib.hid hBs
  have HR0 := Lib.hid hR
  clear hBs hR
  gi_wp2
  gi_loopw [3] (fun i wr => ∃ (k : Nat) (z : Int) (pre : List (Int × Pc)), k ≤ L.length ∧ i = .int .i64 z ∧ z + 1 = k ∧ pre.map (·.2) = (L.drop k).reverse ∧ J pre wr ∧ RdO gp wr (.slice A L.length c) L ∧ Boxed wr Bs 85 (.slice A L.length c))
    (fun i _ => (intOf i + 1).toNat)
  case atStart => exact ⟨L.length, _, [], Nat.le_refl _, rfl, by omega, by simp, h0, HR0.out, HBS.out⟩
  case round =>
    obtain ⟨k, z, pre, hk, rfl, hz, hpre, hJs, hRd, hbx⟩ := hrel
    have e0 : wr.cell? ⟨Bs, 0, none⟩ = some (.slice A L.length c) := hbx.cell
    have HBX := Lib.hid hbx
    have HRD := Lib.hid hRd
    clear hbx hRd
    by_cases hk0 : 1 ≤ k
    · obtain ⟨_, rfl, c0, c1, c2, c3⟩ := HRD.out.cell (k - 1) (by omega)
      have hdrop : L.drop (k - 1) = L[k - 1] :: L.drop k := by
        have := List.drop_eq_getElem_cons (l := L) (i := k - 1) (by omega)
        rwa [show k - 1 + 1 = k by omega] at this
      have hpl : pre.length < L.length := by
        have : (pre.map (·.2)).length = pre.length := by simp
        rw [hpre] at this
        simp at this
        omega
      obtain ⟨x, hx⟩ : ∃ x, L[k - 1] = x := ⟨_, rfl⟩
      rw [hx] at c0 c1 c2 c3 hdrop
      obtain ⟨s, k', n', ⟨x1, x2, x3⟩, ps'⟩ := x
      dsimp only [slv, strB] at c0 c1 c2 c3
      obtain ⟨fn, tmps, assign, body, hy, hR2⟩ := hY pre (z, ⟨s, k', n', (x1, x2, x3), ps'⟩) wr hJs hpl
      dsimp only [pcV, slv, strB] at hy
      have f1 : (0 : Int) ≤ z := by omega
      have f2 : z < (L.length : Int) := by omega
      have f3 : z.toNat = k - 1 := by omega
      have f4 : decide ((0 : Int) ≤ z) = true := decide_eq_true f1
      have HZ := Lib.hid hz
      have HP := Lib.hid hpre
      have HD := Lib.hid hdrop
      clear hz hpre hdrop hx hpl
      gi_wp2
      refine hR2.mono ?_
      rintro e W3 (⟨rfl, hJ3, hk3⟩ | ⟨rfl, hJx3⟩)
      · have hq1 : RdO gp W3 (.slice (some ⟨gp, 0, none⟩) L.length c) L := HRD.out.keep (hk3 gp (by simp))
        have hq2 : Boxed W3 Bs 85 (.slice (some ⟨gp, 0, none⟩) L.length c) := hk3 Bs (by simp) _ HBX.out rfl
        have HQ1 := Lib.hid hq1
        have HQ2 := Lib.hid hq2
        clear hq1 hq2
        gi_wp2
        go_roundw
        case rel => exact ⟨k - 1, z - 1, pre ++ [(z, ⟨s, k', n', (x1, x2, x3), ps'⟩)], by omega, by go_num, by have := HZ.out; omega, by simp [HP.out, HD.out], hJ3, HQ1.out, HQ2.out⟩
        case measure => simp [intOf]; omega
      · gi_wp2
        refine bodyPost_ret (results_none rfl _ _ _) rfl ?_
        exact ⟨⟨_, rfl⟩, .inr ⟨_, hJx3⟩⟩
    · obtain rfl : k = 0 := by omega
      have f1 : ¬ (0 : Int) ≤ z := by omega
      have f4 : decide ((0 : Int) ≤ z) = false := decide_eq_false f1
      have HP := Lib.hid hpre
      clear hz hpre
      gi_wp2
      go_end0
      exact ⟨⟨_, rfl⟩, .inl ⟨pre, by simpa using HP.out, hJs⟩⟩
set_option maxHeartbeats 1000000 in
theorem back_makeP (A : Option Addr) (n c : Nat) (w : World) :
    Calls Tryd.prog 55 #[.slice A n c] w fun e w' => e = .returned (.func (.func 68) #[] #[.pointer (some ⟨w.heap.size, 0, none⟩)]) ∧ w' = w.alloc (.cells #[.slice A n c] 85) := by
  go_enter Tryd.func55, Tryd.ntmps55
  go_wp2
  go_ret
  exact ⟨rfl, rfl⟩
theorem back_seqP (n : Nat) (hn : 1 ≤ n) (Bs gp : Nat) (t : TypeId) (A : Option Addr) (c : Nat) (L : List Pc) (hL : L.length ≤ 10000000) (w : World) (hBs : Boxed w Bs 85 (.slice A L.length c)) (hR : RdO gp w (.slice A L.length c) L) :
    SeqG n Tryd.prog 68 #[.pointer (some ⟨Bs, 0, none⟩)] t (fun x : Int × Pc => #[Value.int .i64 x.1, pcV x.2]) (KpQ [gp, Bs]) (fun ys => ys.map (·.2) = L.reverse) (fun _ => True) (fun pre _ => pre.length < L.length) w := fun l J Jx W hW _ _ hY h0 => by
  have hbs : Boxed W Bs 85 (.slice A L.length c) := (hW.block Bs hBs.lt).trans hBs
  refine (back1P n hn l Bs gp A c L hL J Jx hY W hbs (hR.keep fun o ho _ => (hW.block gp (Array.getElem?_eq_some_iff.1 ho).1).trans ho) h0).mono ?_
  rintro e W' ⟨he, ⟨ys, hy, hj⟩ | ⟨pre, hj⟩⟩
  · exact ⟨he, .inl ⟨ys, hy, hj⟩⟩
  · exact ⟨he, .inr ⟨pre, trivial, hj⟩⟩
end Go.Proofs.YtifdbmdfkhnojaaDoor
