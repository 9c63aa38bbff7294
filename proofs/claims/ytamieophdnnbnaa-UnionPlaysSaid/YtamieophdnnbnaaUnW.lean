/- The document's answer on sets: New, In, Same, Join. -/
import Derived.Test.YtamieophdnnbnaaUnT
import Derived.Deep.QuietTactic
import Derived.BigQuiet
import Derived.StillTactics
namespace Go.Proofs.Ytamieophdnnbnaa.Un
open Go.RowKit
attribute [local go_sem] Oper.semAt_some
attribute [local go_sem ↓] builtin_app

/-- An int put behind a row, whatever its type is called. -/
theorem app_int2 (t : TypeId) (ht : Try.prog.underlying t = some (.slice 3)) (B : Nat) (w : World) (hB : B ≤ w.heap.size) (v : Value) (n : Nat) (xs : List Value) (hown : w.ownsRow B 3 1 v n xs) (x : Int) (hn : n ≤ 10000000) :
    ∃ g cp w1, (app_ #[t, t] t #[v, .slice (some ⟨w.heap.size, 0, none⟩) 1 1]).run Try.prog (w.alloc (.cells #[.int .i64 x] 3)) = .ok (.slice (some ⟨g, 0, none⟩) (n + 1) cp) w1 ∧
      w1.ownsRow B 3 1 (.slice (some ⟨g, 0, none⟩) (n + 1) cp) (n + 1) (xs ++ [.int .i64 x]) ∧ Below B w w1 := by
  obtain ⟨i0, hi0, hz0, hz1, hz2⟩ := info_parts intInfo
  have own1 := hown.alloc (.cells #[.int .i64 x] 3)
  have rd1 : Rd (w.alloc (.cells #[.int .i64 x] 3)) 1 (.slice (some ⟨w.heap.size, 0, none⟩) 1 1) 1 [.int .i64 x] := rd_new w [.int .i64 x] 3 1 1 rfl (by unfold maxLen; omega)
  obtain ⟨v', w1, hrun, hown1, hg1, _⟩ := run_append_rd (P := Try.prog) _ B t t 3 i0 _ 1 8 ht hi0 hz0 hz1 hz2 rfl (by omega) v _ _ own1 _ 1 _ rd1 (by simp [Value.oneCell']) (by unfold maxLen; omega) (by omega) (by rw [World.size_alloc]; omega)
  obtain ⟨g, cp, rfl, _, _⟩ := own_shape hown1 (by omega)
  exact ⟨g, cp, w1, hrun, hown1, ((Below.refl B w).alloc hB _).grown hg1 (by rw [World.size_alloc]; omega) fun k hk => (hown.lt k hk).1⟩
theorem row_form {w : World} {B : Nat} {v : Value} {n : Nat} {xs : List Value} (h : w.ownsRow B 3 1 v n xs) : ∃ A c, v = .slice A n c := by
  obtain ⟨A, c, rfl, _⟩ := own_form h; exact ⟨A, c, rfl⟩
set_option maxRecDepth 100000 in
set_option maxHeartbeats 1000000 in
theorem rnew_any (w : World) (n : Nat) (hn : n ≤ 1000000) :
    Calls Try.prog 10 #[.int .i64 (n : Nat)] w fun e w' => ∃ v, e = .returned v ∧ w'.ownsRow w.heap.size 3 1 v n (rowI n fun k => k) ∧ Below w.heap.size w w' := by
  go_enter Try.func10, Try.ntmps10
  go_wp2_with fail
  go_loopw [3, 4] (fun v s wr => ∃ k : Nat, s = .int .i64 (k : Int) ∧ k ≤ n ∧ wr.ownsRow w.heap.size 3 1 v k (rowI k fun k => k) ∧ Below w.heap.size w wr) (fun _ s _ => ((n : Int) - intAt s).toNat)
  case atStart => exact ⟨0, rfl, by omega, World.ownsRow_nil _ _ _ _, Below.refl _ _⟩
  case round =>
    obtain ⟨k, rfl, hk, ho, hb⟩ := hrel
    by_cases hkn : k < n
    · have f1 : decide ((k : Int) < (n : Nat)) = true := decide_eq_true (by omega)
      obtain ⟨Av, cv, rfl⟩ := row_form ho
      obtain ⟨g, cp, w1, hrun, ho1, hb1⟩ := app_int2 29 Try.underlying29 w.heap.size wr hb.size _ k _ ho k (by omega)
      have HR := Lib.hid (And.intro ho1 (hb.trans hb1))
      clear ho hb ho1 hb1
      go_wp2_with fail
      go_roundw
      case rel => exact ⟨k + 1, by go_num, by omega, by rw [rowI_snoc]; exact HR.out.1, HR.out.2⟩
      case measure =>
        simp only [intAt]
        omega
    · have f1 : decide ((k : Int) < (n : Nat)) = false := decide_eq_false (by omega)
      obtain rfl : k = n := by omega
      have HR := Lib.hid (And.intro ho hb)
      clear ho hb
      go_wp2_with fail
      go_ret
      exact ⟨_, rfl, HR.out.1, HR.out.2⟩
set_option maxRecDepth 100000 in
theorem rin_any {w : World} {B : Nat} {v : Value} {n : Nat} {xs : List Value} (h : w.ownsRow B 3 1 v n xs) (i : Int) :
    Calls Try.prog 13 #[v, .int .i64 i] w fun e w' => e = .returned (.bool (decide (0 ≤ i ∧ i < n))) ∧ w' = w := by
  obtain ⟨Av, cv, rfl⟩ := row_form h
  by_cases hi : 0 ≤ i
  · have f1 : decide (0 ≤ i) = true := decide_eq_true hi
    have e1 : decide (0 ≤ i ∧ i < (n : Int)) = decide (i < (n : Int)) := by simp [hi]
    rw [e1]
    go_enter Try.func13, Try.ntmps13
    go_wp2_with fail
    go_ret
    exact ⟨rfl, rfl⟩
  · have f1 : decide (0 ≤ i) = false := decide_eq_false hi
    rw [decide_eq_false (fun h : 0 ≤ i ∧ i < (n : Int) => hi h.1)]
    go_enter Try.func13, Try.ntmps13
    go_wp2_with fail
    go_ret
    exact ⟨rfl, rfl⟩
set_option maxRecDepth 100000 in
set_option maxHeartbeats 1000000 in
theorem rsame_in {w : World} {B : Nat} {v : Value} {n : Nat} {c : Nat → Nat} (h : w.ownsRow B 3 1 v n (rowI n c)) (i j : Nat) (hi : i < n) (hj : j < n) :
    Calls Try.prog 14 #[v, .int .i64 (i : Nat), .int .i64 (j : Nat)] w fun e w' => e = .returned (.bool (c i == c j)) ∧ ∃ q, w' = w.drewN q := by
  obtain ⟨g, cv, rfl, _, _⟩ := own_shape h (by omega)
  have r1 : w.cell? ⟨g, i, none⟩ = some (.int .i64 (c i : Nat)) := (h.cellAt i (by omega)).trans (rowI_get hi)
  have r2 : w.cell? ⟨g, j, none⟩ = some (.int .i64 (c j : Nat)) := (h.cellAt j (by omega)).trans (rowI_get hj)
  have e1 : ((c i : Int) == (c j : Int)) = (c i == c j) := by
    rw [Bool.eq_iff_iff, beq_iff_eq, beq_iff_eq]; omega
  have h1 : decide (0 ≤ (i : Int) ∧ (i : Int) < (n : Int)) = true := decide_eq_true (by omega)
  have h2 : decide (0 ≤ (j : Int) ∧ (j : Int) < (n : Int)) = true := decide_eq_true (by omega)
  have H1 : Hid (Calls Try.prog 13 #[.slice (some ⟨g, 0, none⟩) n cv, .int .i64 (i : Nat)] w.drew fun e w' => e = .returned (.bool true) ∧ w' = w.drew) := Lib.hid (by
    have := rin_any (w := w.drew) (show w.drew.ownsRow B 3 1 (.slice (some ⟨g, 0, none⟩) n cv) n (rowI n c) from h) (i : Int)
    rw [h1] at this
    exact this)
  have H2 : Hid (Calls Try.prog 13 #[.slice (some ⟨g, 0, none⟩) n cv, .int .i64 (j : Nat)] w.drew fun e w' => e = .returned (.bool true) ∧ w' = w.drew) := Lib.hid (by
    have := rin_any (w := w.drew) (show w.drew.ownsRow B 3 1 (.slice (some ⟨g, 0, none⟩) n cv) n (rowI n c) from h) (j : Int)
    rw [h2] at this
    exact this)
  clear h h1 h2
  go_enter Try.func14, Try.ntmps14
  go_wp2_with fail
  refine wp_region_still_lit (by kernel_rfl) (by kernel_rfl) ?_
  repeat still_step
  still_call H1.out
  repeat still_step
  still_call H2.out
  repeat still_step
  refine wpStill_nil ?_
  change Exit.then _ _ _ _ w.drew
  go_wp2_with fail
  go_ret
  exact ⟨rfl, 1, rfl⟩
set_option maxRecDepth 100000 in
set_option maxHeartbeats 1000000 in
theorem rjoin_in {w : World} {B : Nat} {v : Value} {n : Nat} {c : Nat → Nat} (h : w.ownsRow B 3 1 v n (rowI n c)) (x y : Nat) (hx : x < n) (hy : y < n) (hn : n ≤ 1000000) :
    Calls Try.prog 15 #[v, .int .i64 (x : Nat), .int .i64 (y : Nat)] w fun e w' => ∃ v', e = .returned v' ∧ w'.ownsRow w.heap.size 3 1 v' n (rowI n (paint c x y)) ∧ Below w.heap.size w w' := by
  obtain ⟨g, cv, rfl, _, hgl⟩ := own_shape h (by omega)
  have H := Lib.hid h
  clear h
  go_enter Try.func15, Try.ntmps15
  go_wp2_with fail
  go_loopw [7, 8, 9] (fun v s _ wr => ∃ k : Nat, s = .int .i64 (k : Int) ∧ k ≤ n ∧ wr.ownsRow w.heap.size 3 1 v k (rowI k (paint c x y)) ∧ Below w.heap.size w wr) (fun _ s _ _ => ((n : Int) - intAt s).toNat)
  case atStart => exact ⟨0, rfl, by omega, World.ownsRow_nil _ _ _ _, Below.refl _ _⟩
  case round =>
    obtain ⟨k, rfl, hk, ho, hb⟩ := hrel
    by_cases hkn : k < n
    · have f1 : decide ((k : Int) < (n : Nat)) = true := decide_eq_true (by omega)
      have r1 : wr.cell? ⟨g, k, none⟩ = some (.int .i64 (c k : Nat)) := (hb.cell (p := ⟨g, k, none⟩) hgl).trans ((H.out.cellAt k (by omega)).trans (rowI_get hkn))
      have r2 : wr.cell? ⟨g, y, none⟩ = some (.int .i64 (c y : Nat)) := (hb.cell (p := ⟨g, y, none⟩) hgl).trans ((H.out.cellAt y (by omega)).trans (rowI_get hy))
      have r3 : wr.cell? ⟨g, x, none⟩ = some (.int .i64 (c x : Nat)) := (hb.cell (p := ⟨g, x, none⟩) hgl).trans ((H.out.cellAt x (by omega)).trans (rowI_get hx))
      obtain ⟨Av, cw, rfl⟩ := row_form ho
      obtain ⟨g2, cp, w1, hrun, ho1, hb1⟩ := app_int2 29 Try.underlying29 w.heap.size wr hb.size _ k _ ho (paint c x y k : Nat) (by omega)
      have HR := Lib.hid (And.intro ho1 (hb.trans hb1))
      clear ho hb ho1 hb1
      by_cases he : c k = c y
      · have f2 : ((c k : Int) == (c y : Int)) = true := by rw [he]; simp
        have hp : paint c x y k = c x := by unfold paint; rw [if_pos he]
        rw [hp] at hrun
        have HP := Lib.hid hp
        clear he hp
        go_wp2_with fail
        go_roundw
        case rel => exact ⟨k + 1, by go_num, by omega, by rw [rowI_snoc]; exact HR.out.1, HR.out.2⟩
        case measure =>
          simp only [intAt]
          omega
      · have f2 : ((c k : Int) == (c y : Int)) = false := by simp; omega
        have hp : paint c x y k = c k := by unfold paint; rw [if_neg he]
        rw [hp] at hrun
        have HP := Lib.hid hp
        clear he hp
        go_wp2_with fail
        go_roundw
        case rel => exact ⟨k + 1, by go_num, by omega, by rw [rowI_snoc]; exact HR.out.1, HR.out.2⟩
        case measure =>
          simp only [intAt]
          omega
    · have f1 : decide ((k : Int) < (n : Nat)) = false := decide_eq_false (by omega)
      obtain rfl : k = n := by omega
      have HR := Lib.hid (And.intro ho hb)
      clear ho hb
      go_wp2_with fail
      go_ret
      exact ⟨_, rfl, HR.out.1, HR.out.2⟩
theorem mem_step (c : Nat → Nat) (i k : Nat) : mem_ (k + 1) c i = if c i == c k then mem_ k c i ++ [k] else mem_ k c i := by
  unfold mem_
  rw [List.range_succ, List.filter_append]
  by_cases h : c k = c i
  · rw [if_pos (by simp [h])]; simp [h]
  · rw [if_neg (by simp [Ne.symm h])]; simp [h]
set_option maxRecDepth 100000 in
set_option maxHeartbeats 1000000 in
theorem rset_in {w : World} {B : Nat} {v : Value} {n : Nat} {c : Nat → Nat} (h : w.ownsRow B 3 1 v n (rowI n c)) (i : Nat) (hi : i < n) (hn : n ≤ 1000000) :
    Calls Try.prog 19 #[v, .int .i64 (i : Nat)] w fun e w' => ∃ v', e = .returned v' ∧ w'.ownsRow w.heap.size 3 1 v' (mem_ n c i).length (rowL (mem_ n c i)) ∧ Below w.heap.size w w' := by
  obtain ⟨g, cv, rfl, _, hgl⟩ := own_shape h (by omega)
  have H := Lib.hid h
  clear h
  go_enter Try.func19, Try.ntmps19
  go_wp2_with fail
  go_loopw [5, 6] (fun v s wr => ∃ k : Nat, s = .int .i64 (k : Int) ∧ k ≤ n ∧ wr.ownsRow w.heap.size 3 1 v (mem_ k c i).length (rowL (mem_ k c i)) ∧ Below w.heap.size w wr) (fun _ s _ => ((n : Int) - intAt s).toNat)
  case atStart => exact ⟨0, rfl, by omega, World.ownsRow_nil _ _ _ _, Below.refl _ _⟩
  case round =>
    obtain ⟨k, rfl, hk, ho, hb⟩ := hrel
    by_cases hkn : k < n
    · have f1 : decide ((k : Int) < (n : Nat)) = true := decide_eq_true (by omega)
      have HC := rsame_in (row_later H.out hb) i k hi hkn
      have HO := Lib.hid (And.intro ho hb)
      obtain ⟨bb, hbb⟩ : ∃ b, (c i == c k) = b := ⟨_, rfl⟩
      rw [hbb] at HC
      have HBB := Lib.hid hbb
      obtain ⟨Av, cw, rfl⟩ := row_form ho
      have hml := mem_len k c i
      clear ho hb hbb
      go_wp2_with fail
      refine HC.mono ?_
      rintro e w2 ⟨rfl, q, rfl⟩
      have ho2 : (wr.drewN q).ownsRow w.heap.size 3 1 (.slice Av (mem_ k c i).length cw) (mem_ k c i).length (rowL (mem_ k c i)) := HO.out.1
      have hb2 : Below w.heap.size w (wr.drewN q) := HO.out.2.trans ⟨rfl, rfl, rfl, Nat.le_refl _, fun _ _ => rfl⟩
      obtain ⟨g2, cp, w1, hrun, ho1, hb1⟩ := app_int2 28 Try.underlying28 w.heap.size (wr.drewN q) hb2.size _ _ _ ho2 k (by omega)
      have HR := Lib.hid (And.intro ho1 (And.intro (hb2.trans hb1) (And.intro ho2 hb2)))
      obtain ⟨ml, hml2⟩ : ∃ ml, (mem_ k c i).length = ml := ⟨_, rfl⟩
      rw [hml2] at hrun
      have hrun2 : (app_ #[28, 28] 28 #[.slice Av ml cw, .slice (some ⟨wr.heap.size, 0, none⟩) 1 1]).run Try.prog ((wr.drewN q).alloc (.cells #[.int .i64 (k : Nat)] 3)) = .ok (.slice (some ⟨g2, 0, none⟩) (ml + 1) cp) w1 := hrun
      clear hrun
      have HML := Lib.hid hml2
      rw [hml2]
      clear ho2 hb2 ho1 hb1 hml2 HC
      cases bb with
      | true =>
        go_wp2_with fail
        go_roundw
        case rel =>
          have e1 : mem_ (k + 1) c i = mem_ k c i ++ [k] := by rw [mem_step, if_pos HBB.out]
          refine ⟨k + 1, by go_num, by omega, ?_, HR.out.2.1⟩
          rw [e1, List.length_append, List.length_singleton, rowL_snoc, HML.out]
          have := HR.out.1
          rw [HML.out] at this
          exact this
        case measure =>
          simp only [intAt]
          omega
      | false =>
        go_wp2_with fail
        go_roundw
        case rel =>
          have e1 : mem_ (k + 1) c i = mem_ k c i := by rw [mem_step, if_neg (by rw [HBB.out]; simp)]
          refine ⟨k + 1, by go_num, by omega, ?_, HR.out.2.2.2⟩
          rw [e1, ← HML.out]
          exact HR.out.2.2.1
        case measure =>
          simp only [intAt]
          omega
    · have f1 : decide ((k : Int) < (n : Nat)) = false := decide_eq_false (by omega)
      obtain rfl : k = n := by omega
      have HR := Lib.hid (And.intro ho hb)
      clear ho hb
      go_wp2_with fail
      go_ret
      exact ⟨_, rfl, HR.out.1, HR.out.2⟩
end Go.Proofs.Ytamieophdnnbnaa.Un
