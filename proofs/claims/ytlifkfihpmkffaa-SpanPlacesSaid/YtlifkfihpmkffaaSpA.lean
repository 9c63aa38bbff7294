/- The contracts of the small functions of package span. -/
import Derived.Test.YtlifkfihpmkffaaRows
import Derived.Test.YtlifkfihpmkffaaSpM
import Derived.Deep.QuietTactic
import Derived.BigQuiet
namespace Go.Proofs.Ytlifkfihpmkffaa
open Go.RowKit

theorem sret_bool {a b : Bool} (h : a = b) : Ending.returned (.bool a) = .returned (.bool b) := by rw [h]
set_option maxHeartbeats 400000 in
theorem hasBytes_any (a c : Int) (w : World) :
    Calls Try.prog 46 #[.agg #[.int .i64 a, .int .i64 c]] w fun e w' => e = .returned (.bool (decide (a < c))) ∧ Below w.heap.size w w' := by
  go_enter Try.func46, Try.ntmps46
  go_wp2
  go_ret
  exact ⟨rfl, (Below.refl _ _).alloc (Nat.le_refl _) _⟩

/-- A row with elements lies at the head of a block. -/
theorem own_shape {w : World} {base : Nat} {e : TypeId} {size : Nat} {v : Value} {n : Nat} {xs : List Value} (h : w.ownsRow base e size v n xs) (hn : 0 < n) : ∃ g c, v = .slice (some ⟨g, 0, none⟩) n c ∧ base ≤ g ∧ g < w.heap.size := by
  rcases h.2 with ⟨_, h0⟩ | ⟨g, cap, cur, rfl, hb, hg, _⟩
  · omega
  · exact ⟨g, cap, rfl, hb, (Array.getElem?_eq_some_iff.1 hg).1⟩
theorem spInfo : (Try.prog.info? 25).map (fun i => (i.zero, i.size, i.bytes)) = some (some (.agg #[.int .i64 0, .int .i64 0]), 2, 16) := by kernel_rfl
/-- Below block number B all is as it was, but for one block. -/
structure Mid (bv B : Nat) (w w' : World) : Prop where
  os : w'.os = w.os
  tape : w'.tape = w.tape
  output : w'.output = w.output
  size : w.heap.size ≤ w'.heap.size
  block : ∀ k, k < B → k ≠ bv → w'.heap[k]? = w.heap[k]?
theorem Mid.refl (bv B : Nat) (w : World) : Mid bv B w w := ⟨rfl, rfl, rfl, Nat.le_refl _, fun _ _ _ => rfl⟩
theorem Mid.of_below {bv B : Nat} {w w' : World} (h : Below B w w') : Mid bv B w w' := ⟨h.os, h.tape, h.output, h.size, fun k hk _ => h.block k hk⟩
theorem Mid.trans {bv B : Nat} {a b c : World} (h : Mid bv B a b) (k : Mid bv B b c) : Mid bv B a c :=
  ⟨k.os.trans h.os, k.tape.trans h.tape, k.output.trans h.output, Nat.le_trans h.size k.size, fun i hi hn => (k.block i hi hn).trans (h.block i hi hn)⟩
theorem Mid.set_ {bv B : Nat} {w w' : World} (h : Mid bv B w w') (u : Value) : Mid bv B w (w'.setCell ⟨bv, 0, none⟩ u) :=
  h.trans ⟨rfl, rfl, rfl, by simp [World.setCell], fun k _ hk => Below.heap_setCell _ _ _ _ hk⟩
theorem Mid.below {bv B : Nat} {w w' : World} (h : Mid bv B w w') (hB : bv ≤ B) : Below bv w w' := ⟨h.os, h.tape, h.output, h.size, fun k hk => h.block k (by omega) (by omega)⟩
/-- What one step of the merge owes. -/
def StepPost (acc : List Sp) (s : Sp) (bv B : Nat) (W : World) (e : Ending) (w' : World) : Prop :=
  e = .returned (.tuple #[]) ∧ ∃ v', w'.cell? ⟨bv, 0, none⟩ = some v' ∧ w'.frozen? ⟨bv, 0, none⟩ = false ∧ w'.ownsRow B 25 2 v' (mergeStep acc s).length (spCells (mergeStep acc s)) ∧ Mid bv B W w'

set_option maxHeartbeats 1000000 in
set_option maxRecDepth 100000 in
theorem step_nil (a c : Int) (bv B : Nat) (W : World) (v : Value) (hcell : W.cell? ⟨bv, 0, none⟩ = some v) (hfr : W.frozen? ⟨bv, 0, none⟩ = false) (hB : bv < B) (hBs : B ≤ W.heap.size)
    (hown : W.ownsRow B 25 2 v 0 []) :
    Calls Try.prog 39 #[.agg #[.int .i64 a, .int .i64 c], .pointer (some ⟨bv, 0, none⟩)] W (StepPost [] (a, c) bv B W) := by
  have hlt : bv < W.heap.size := by omega
  obtain ⟨i0, hi, hz0, hz1, hz2⟩ := info_parts spInfo
  obtain ⟨A, cc, rfl⟩ : ∃ A c, v = .slice A 0 c := by
    rcases hown.2 with ⟨rfl, _⟩ | ⟨g, cap, cur, rfl, _⟩
    · exact ⟨_, _, rfl⟩
    · exact ⟨_, _, rfl⟩
  go_enter Try.func39, Try.ntmps39
  go_wp2_with fail
  go_quiet (fail)
  go_wp2_with (at_builtin; refine wpList_append_own _ rfl (.tmp 31) (.tmp 33) 22 rfl B 25 i0 _ 2 16 Try.underlying22 hi hz0 hz1 hz2 rfl (by decide) _ 0 [] rfl ((hown.alloc _).alloc _) ⟨W.heap.size + 1, 0, none⟩ 1 1 [_, _] rfl rfl (cells_new' (W.alloc _) _ (by simp) _ _) (spCells_one [(a, c)]) (by unfold maxLen; omega) (by omega) (by simp; omega) ?_; intro v1 w1 hown1 hg1 _; obtain ⟨g1, cp1, rfl, _, _⟩ := own_shape hown1 (by omega); have hb1 : Below B W w1 := ((below_drewN ((Below.refl _ _).alloc (by omega) _) _).alloc (by simp; omega) _).grown hg1 (by simp; omega) (fun b hb => (hown.lt b hb).1); have c1 := (hb1.cell (p := ⟨bv, 0, none⟩) hB).trans hcell; have f1 := (hb1.frozen (p := ⟨bv, 0, none⟩) hB).trans hfr; clear hg1 hcell hfr)
  go_end0
  exact ⟨rfl, _, by go_simp, by go_simp, ownsRow_setCell_below hown1 hB _, (Mid.of_below hb1).set_ _⟩

set_option maxHeartbeats 1000000 in
set_option maxRecDepth 100000 in
theorem step_new (a c : Int) (t : Sp) (acc : List Sp) (bv B : Nat) (W : World) (v : Value) (hcell : W.cell? ⟨bv, 0, none⟩ = some v) (hfr : W.frozen? ⟨bv, 0, none⟩ = false) (hB : bv < B) (hBs : B ≤ W.heap.size)
    (hown : W.ownsRow B 25 2 v (acc ++ [t]).length (spCells (acc ++ [t]))) (hlen : acc.length ≤ 1000000) (hat : ¬ a ≤ t.2) :
    Calls Try.prog 39 #[.agg #[.int .i64 a, .int .i64 c], .pointer (some ⟨bv, 0, none⟩)] W (StepPost (acc ++ [t]) (a, c) bv B W) := by
  have hlt : bv < W.heap.size := by omega
  obtain ⟨i0, hi, hz0, hz1, hz2⟩ := info_parts spInfo
  obtain ⟨b, off, cap, rfl, _, _, hbl, hc⟩ := (RdS.of_own hown).form (by simp)
  have e1 := (hc acc.length (by simp)).2
  rw [show (acc ++ [t])[acc.length]'(by simp) = t by simp] at e1
  have hM : Hid (mergeStep (acc ++ [t]) (a, c) = acc ++ [t] ++ [(a, c)]) := mergeStep_new acc t (a, c) hat
  have hat' : decide (a ≤ t.2) = false := decide_eq_false hat
  have hl : (acc ++ [t]).length = acc.length + 1 := by simp
  obtain ⟨X, hX⟩ : ∃ X, X = spCells (acc ++ [t]) := ⟨_, rfl⟩
  rw [← hX, hl] at hown
  rw [hl] at hcell
  have HX := Lib.hid hX
  obtain ⟨n, hn⟩ : ∃ n, n = acc.length := ⟨_, rfl⟩
  rw [← hn] at e1 hlen hown hcell
  have Hn := Lib.hid hn
  have hbb : B ≤ b := by
    rcases hown.2 with ⟨h, _⟩ | ⟨g, cap', cur, h, hb, _⟩
    · cases h
    · injection h with h; injection h with h; injection h with h; omega
  clear hc hX hn hl hat
  obtain ⟨W1, hW1⟩ : ∃ W1, W1 = W.alloc (.cells #[.int .i64 a, .int .i64 c] 25) := ⟨_, rfl⟩
  have k0 : W1.cell? ⟨W.heap.size, 0, none⟩ = some (.int .i64 a) := by rw [hW1]; go_simp
  have k1 : W1.cell? ⟨W.heap.size, 1, none⟩ = some (.int .i64 c) := by rw [hW1]; go_simp
  have k2 : W1.cell? ⟨bv, 0, none⟩ = some (.slice (some ⟨b, off, none⟩) (n + 1) cap) := by rw [hW1, World.cell?_alloc_lt _ _ _ (by show bv < _; omega)]; exact hcell
  have k3 : W1.cell? ⟨b, off + n * 2 + 1, none⟩ = some (.int .i64 t.2) := by rw [hW1, World.cell?_alloc_lt _ _ _ hbl]; exact e1
  have k4 : W1.frozen? ⟨bv, 0, none⟩ = false := by rw [hW1]; go_simp
  have k5 : W1.frozen? ⟨W.heap.size, 0, none⟩ = false := by rw [hW1]; go_simp
  have B1 : Below B W W1 := by rw [hW1]; exact (Below.refl _ _).alloc (by omega) _
  have own1 : W1.ownsRow B 25 2 (.slice (some ⟨b, off, none⟩) (n + 1) cap) (n + 1) X := by rw [hW1]; exact hown.alloc _
  have z1 : W1.heap.size = W.heap.size + 1 := by rw [hW1]; simp
  have HW := Lib.hid hW1
  have Z1 := Lib.hid z1
  have HC := Lib.hid hcell
  go_enter Try.func39, Try.ntmps39
  go_wp2_with fail
  rw [← hW1]
  clear hcell hown e1 hW1 z1
  go_quiet (fail)
  go_wp2_with (at_builtin; refine wpList_append_own _ rfl (.tmp 31) (.tmp 33) 22 rfl B 25 i0 _ 2 16 Try.underlying22 hi hz0 hz1 hz2 rfl (by decide) _ (n + 1) X rfl (own1.alloc _) ⟨W1.heap.size, 0, none⟩ 1 1 [_, _] rfl rfl (cells_new W1 _ _) (spCells_one [(a, c)]) (by unfold maxLen; omega) (by omega) (by simp [Z1.out]; omega) ?_; intro v1 w1 hown1 hg1 _; obtain ⟨g1, cp1, rfl, _, _⟩ := own_shape hown1 (by omega); have hb1 : Below B W w1 := ((below_drewN B1 _).alloc (by simp [Z1.out]; omega) _).grown hg1 (by simp [Z1.out]; omega) (fun b hb => (own1.lt b hb).1); have c1 := (hb1.cell (p := ⟨bv, 0, none⟩) hB).trans HC.out; have f1 := (hb1.frozen (p := ⟨bv, 0, none⟩) hB).trans hfr; clear hg1 hfr)
  go_end0
  refine ⟨rfl, .slice (some ⟨g1, 0, none⟩) (n + 1 + 1) cp1, by go_simp, by go_simp, ?_, (Mid.of_below hb1).set_ _⟩
  have e2 : (mergeStep (acc ++ [t]) (a, c)).length = n + 1 + 1 := by rw [hM.out, Hn.out]; simp
  rw [e2, hM.out, spCells_snoc (acc ++ [t]), ← HX.out]
  exact ownsRow_setCell_below hown1 hB _

set_option maxHeartbeats 1000000 in
set_option maxRecDepth 100000 in
theorem step_join (a c : Int) (t : Sp) (acc : List Sp) (bv B : Nat) (W : World) (v : Value) (hcell : W.cell? ⟨bv, 0, none⟩ = some v) (hfr : W.frozen? ⟨bv, 0, none⟩ = false) (hB : bv < B) (hBs : B ≤ W.heap.size)
    (hown : W.ownsRow B 25 2 v (acc ++ [t]).length (spCells (acc ++ [t]))) (hlen : acc.length ≤ 1000000) (hat : a ≤ t.2) :
    Calls Try.prog 39 #[.agg #[.int .i64 a, .int .i64 c], .pointer (some ⟨bv, 0, none⟩)] W (StepPost (acc ++ [t]) (a, c) bv B W) := by
  have hlt : bv < W.heap.size := by omega
  obtain ⟨g, cap, rfl, hbb, hbl⟩ := own_shape hown (by simp)
  have hl : (acc ++ [t]).length = acc.length + 1 := by simp
  have e1 : W.cell? ⟨g, acc.length * 2 + 1, none⟩ = some (.int .i64 t.2) := by
    rw [hown.cellAt _ (by rw [hl]; omega), flat2 _ _ _ (by simp) (by omega)]
    simp [enc2]
  have ef : W.frozen? ⟨g, acc.length * 2 + 1, none⟩ = false := hown.frozenAt _
  have hM : Hid (mergeStep (acc ++ [t]) (a, c) = acc ++ [(t.1, max t.2 c)]) := mergeStep_join acc t (a, c) hat
  have hat' : decide (a ≤ t.2) = true := decide_eq_true hat
  rw [hl] at hcell
  have HC := Lib.hid hcell
  have HOWN := Lib.hid hown
  obtain ⟨n, hn⟩ : ∃ n, n = acc.length := ⟨_, rfl⟩
  rw [← hn] at e1 ef hlen hcell
  have Hn := Lib.hid hn
  obtain ⟨W1, hW1⟩ : ∃ W1, W1 = W.alloc (.cells #[.int .i64 a, .int .i64 c] 25) := ⟨_, rfl⟩
  have k0 : W1.cell? ⟨W.heap.size, 0, none⟩ = some (.int .i64 a) := by rw [hW1]; go_simp
  have k1 : W1.cell? ⟨W.heap.size, 1, none⟩ = some (.int .i64 c) := by rw [hW1]; go_simp
  have k2 : W1.cell? ⟨bv, 0, none⟩ = some (.slice (some ⟨g, 0, none⟩) (n + 1) cap) := by rw [hW1, World.cell?_alloc_lt _ _ _ (by show bv < _; omega)]; exact hcell
  have k3 : W1.cell? ⟨g, n * 2 + 1, none⟩ = some (.int .i64 t.2) := by rw [hW1, World.cell?_alloc_lt _ _ _ hbl]; exact e1
  have k4 : W1.frozen? ⟨g, n * 2 + 1, none⟩ = false := by rw [hW1, World.frozen?_alloc_old _ _ _ (by simp; omega)]; exact ef
  have HW := Lib.hid hW1
  clear hown hn hl
  go_enter Try.func39, Try.ntmps39
  go_wp2_with fail
  rw [← hW1]
  clear hW1 hcell e1 ef
  go_quiet (fail)
  obtain ⟨W2, hW2⟩ : ∃ W2, W2 = W1.drewN nq := ⟨_, rfl⟩
  have j0 : W2.cell? ⟨W.heap.size, 0, none⟩ = some (.int .i64 a) := by rw [hW2]; exact k0
  have j1 : W2.cell? ⟨W.heap.size, 1, none⟩ = some (.int .i64 c) := by rw [hW2]; exact k1
  have j2 : W2.cell? ⟨bv, 0, none⟩ = some (.slice (some ⟨g, 0, none⟩) (n + 1) cap) := by rw [hW2]; exact k2
  have j3 : W2.cell? ⟨g, n * 2 + 1, none⟩ = some (.int .i64 t.2) := by rw [hW2]; exact k3
  have j4 : W2.frozen? ⟨g, n * 2 + 1, none⟩ = false := by rw [hW2]; exact k4
  rw [← hW2]
  have HW2 := Lib.hid hW2
  clear hW2 k0 k1 k2 k3 k4
  go_wp2_with fail
  have own2 : W2.ownsRow B 25 2 (.slice (some ⟨g, 0, none⟩) (acc ++ [t]).length cap) (acc ++ [t]).length (spCells (acc ++ [t])) := by
    rw [HW2.out, HW.out]; exact HOWN.out.alloc _
  have b2 : Below B W W2 := by
    rw [HW2.out, HW.out]; exact below_drewN ((Below.refl _ _).alloc (by omega) _) _
  have f2 : W2.frozen? ⟨bv, 0, none⟩ = false := by
    rw [HW2.out, HW.out]
    show (W.alloc _).frozen? _ = false
    rw [World.frozen?_alloc_old _ _ _ (by simp; omega)]; exact hfr
  have hfin : ∀ x : Int, x = max t.2 c → StepPost (acc ++ [t]) (a, c) bv B W (.returned (.tuple #[])) ((W2.setCell ⟨g, n * 2 + 1, none⟩ (.int .i64 x)).drew) := by
    intro x hx
    subst hx
    refine ⟨rfl, .slice (some ⟨g, 0, none⟩) (n + 1) cap, ?_, ?_, ?_, Mid.of_below ((b2.setCell (p := ⟨g, n * 2 + 1, none⟩) hbb _)).drew⟩
    · show (W2.setCell _ _).cell? _ = _
      rw [World.cell?_setCell_other _ _ _ _ (by intro h; injection h with h; omega)]
      exact j2
    · show (W2.setCell _ _).frozen? _ = _
      go_simp
    · have hs := (own2.stored (acc.length * 2 + 1) (.int .i64 (max t.2 c))).1
      have hset : (spCells (acc ++ [t])).set (acc.length * 2 + 1) (.int .i64 (max t.2 c)) = spCells (acc ++ [(t.1, max t.2 c)]) := by
        rw [spCells_snoc, spCells_snoc, List.set_append_right _ _ (by rw [spCells_length]; omega), spCells_length]
        rw [show acc.length * 2 + 1 - acc.length * 2 = 1 by omega]
        rfl
      rw [hset] at hs
      have e2 : (mergeStep (acc ++ [t]) (a, c)).length = (acc ++ [t]).length := by rw [hM.out]; simp
      rw [e2, hM.out]
      rw [Hn.out]
      have e3 : (acc ++ [t]).length = acc.length + 1 := by simp
      rw [e3] at hs ⊢
      exact hs
  have HF := Lib.hid hfin
  have hcm : t.2 < c ∨ ¬ t.2 < c := by omega
  clear hfin own2 b2 f2
  go_region
  all_goals
    go_wp2_with fail
  all_goals
    refine bodyPost_ret (v := .tuple #[]) (by simp [results, Try.results39, go_sem]) rfl (HF.out _ ?_)
    omega
end Go.Proofs.Ytlifkfihpmkffaa
