/- Texts of one proof, one behind the other. -/
import Derived.Test.YtbnpmeaaaecciaaMgUnifyParts18
import Derived.Test.YtbnpmeaaaecciaaShSo
import Derived.Sort.Row
import Derived.Sort.Grow
import Derived.Deep.RegionHeld3
import Derived.Deep.QuietTactic
import Derived.BigQuiet
import Derived.StillTactics
import Derived.Test.YtbnpmeaaaecciaaMgUnifyParts5
import Derived.Test.YtbnpmeaaaecciaaMgUnifyParts17
/- union: Set. -/
namespace Go.Proofs.Ytbnpmeaaaecciaa.Un
open Go.RowKit Go.Sort

/-- The elements of a set, rising. -/
def mem_ (n : Nat) (col : Nat → Nat) (i : Nat) : List Nat := (List.range n).filter fun k => col k == col i
theorem mem_iff {n : Nat} {col : Nat → Nat} {i k : Nat} : k ∈ mem_ n col i ↔ k < n ∧ col k = col i := by
  unfold mem_; rw [List.mem_filter, List.mem_range, beq_iff_eq]
theorem mem_len (n : Nat) (col : Nat → Nat) (i : Nat) : (mem_ n col i).length ≤ n := by
  have := List.length_filter_le (fun k => col k == col i) (List.range n)
  simpa [mem_] using this
theorem ring_perm {n : Nat} {nx col : Nat → Nat} {i : Nat} {L : List Nat} (h : Ring n nx col i L) : L.Perm (mem_ n col i) := by
  refine (List.perm_ext_iff_of_nodup h.2.2.1 (List.Pairwise.filter _ List.nodup_range)).2 fun a => ?_
  exact (h.2.2.2 a).trans mem_iff.symm
theorem sorted_is {n : Nat} {col : Nat → Nat} {i : Nat} {l : List Nat} (hp : l.Perm (mem_ n col i)) (hs : l.Pairwise (· ≤ ·)) : l = mem_ n col i := by
  refine List.Perm.eq_of_pairwise (le := fun a b => a ≤ b) (fun a b _ _ h1 h2 => Nat.le_antisymm h1 h2) hs ?_ hp
  exact (List.pairwise_lt_range.filter _).imp fun h => Nat.le_of_lt h
theorem sort_row (w : World) (B g cap : Nat) (l : List Nat) (hown : w.ownsRow B 3 1 (.slice (some ⟨g, 0, none⟩) l.length cap) l.length (rowL l)) (hl : l.length ≤ 1048576) :
    Calls Try.prog 104 #[.slice (some ⟨g, 0, none⟩) l.length cap] w fun e w' => e = .returned (.tuple #[]) ∧ ∃ l' : List Nat, l'.Perm l ∧ l'.Pairwise (· ≤ ·) ∧ Rd w' 1 (.slice (some ⟨g, 0, none⟩) l.length cap) l.length (rowL l') ∧ Else (fun k => k = g) w w' := by
  obtain ⟨z, hz⟩ : ∃ z : List Int, z = l.map fun (k : Nat) => (k : Int) := ⟨_, rfl⟩
  have hzl : z.length = l.length := by rw [hz, List.length_map]
  obtain ⟨hgl, hcap, hcm⟩ : g < w.heap.size ∧ l.length ≤ cap ∧ cap ≤ maxLen := by
    rcases hown.2 with ⟨h, _⟩ | ⟨g', cap', cur, hv, _, hh, h1, h2, _⟩
    · cases h
    · injection hv with hv _ hc
      injection hv with hv
      injection hv with hv
      subst hv; subst hc
      exact ⟨(Array.getElem?_eq_some_iff.1 hh).1, h1, h2⟩
  have hcell : ∀ j, (hj : j < l.length) → w.cell? ⟨g, j, none⟩ = some (.int .i64 (l[j] : Nat)) := by
    intro j hj
    rw [hown.cellAt j (by omega)]
    simp [rowL, hj]
  have hH : Holds (Value.int .i64) w g 0 z.toArray := by
    intro j hj
    have hj' : j < l.length := by rw [← hzl]; simpa using hj
    refine ⟨?_, ?_⟩
    · rw [Nat.zero_add, hcell j hj']
      congr 2
      rw [getElem!_pos z.toArray j hj]
      simp [hz]
    · rw [Nat.zero_add]; exact hown.frozenAt j
  have hc := Try.slices_Sort_int g 0 cap z w hH hgl (by omega)
  rw [hzl] at hc
  refine hc.mono ?_
  rintro e w' ⟨rfl, n, os, rfl⟩
  have hperm : (z.mergeSort fun x y => decide (x ≤ y)).Perm z := List.mergeSort_perm _ _
  have hpw : (z.mergeSort fun x y => decide (x ≤ y)).Pairwise (fun a b => decide (a ≤ b) = true) := List.pairwise_mergeSort (fun a b c h1 h2 => by simp at h1 h2 ⊢; omega) (fun a b => by simp; omega) _
  generalize (z.mergeSort fun x y => decide (x ≤ y)) = z' at *
  have hz'l : z'.length = l.length := by rw [hperm.length_eq, hzl]
  have hnn : ∀ x ∈ z', ∃ k : Nat, x = (k : Int) := by
    intro x hx
    have := hperm.mem_iff.1 hx
    rw [hz] at this
    obtain ⟨k, _, rfl⟩ := List.mem_map.1 this
    exact ⟨k, rfl⟩
  have hzz : z' = (z'.map Int.toNat).map fun (k : Nat) => (k : Int) := by
    rw [List.map_map]
    conv => lhs; rw [← List.map_id z']
    apply List.map_congr_left
    intro x hx
    obtain ⟨k, rfl⟩ := hnn x hx
    rfl
  refine ⟨rfl, z'.map Int.toNat, ?_, ?_, ?_, ?_⟩
  · have := hperm.map Int.toNat
    rw [hz, List.map_map] at this
    have e : (Int.toNat ∘ fun (k : Nat) => (k : Int)) = id := by funext k; simp
    rw [e, List.map_id] at this
    exact this
  · rw [List.pairwise_map]
    refine hpw.imp_of_mem fun {a b} ha hb h => ?_
    have h : a ≤ b := by simpa using h
    omega
  · refine ⟨by rw [rowL_len, List.length_map, hz'l]; omega, .inr ⟨g, 0, cap, rfl, hcap, hcm, by simp [grow]; omega, fun j u hu => ?_⟩⟩
    have hj : j < z'.length := by have := (List.getElem?_eq_some_iff.1 hu).1; rwa [rowL_len, List.length_map] at this
    have hcp := cell?_putRow (Value.int .i64) (Sort.ahead w n) g 0 z.toArray z'.toArray (holds_ahead _ _ _ _ _ _ hH) (by simp; omega) j (by simpa using hj)
    rw [Nat.zero_add] at hcp ⊢
    have hgrow : (grow (putRow (Value.int .i64) (Sort.ahead w n) g 0 z'.toArray) os).cell? ⟨g, j, none⟩ = (putRow (Value.int .i64) (Sort.ahead w n) g 0 z'.toArray).cell? ⟨g, j, none⟩ := World.cell?_of_block (heap_grow_old _ _ (by simp; omega))
    rw [hgrow, hcp, ← hu]
    rw [getElem!_pos z'.toArray j (by simpa using hj)]
    obtain ⟨k, hk⟩ := hnn z'[j] (List.getElem_mem hj)
    simp [rowL, hj, hk]
  · refine ⟨rfl, rfl, rfl, by simp [grow], fun k hk hne => ?_⟩
    rw [heap_grow_old _ _ (by simp; omega)]
    show ((Sort.ahead w n).heap.modify g _)[k]? = _
    rw [Array.getElem?_modify, if_neg (by simpa using Ne.symm hne)]
    rfl
/-- What Set owes. -/
def SetPost (S : Nat → Prop) (w : World) (b n : Nat) (col ro : Nat → Nat) (steps : Int) (i : Nat) (e : Ending) (w' : World) : Prop :=
  ∃ (v : Value), e = .returned v ∧ Rd w' 1 v (mem_ n col i).length (rowL (mem_ n col i)) ∧ (∃ k : Nat, k ≤ n ∧ UFo S w' b n col ro (steps + k)) ∧ Else S w w'
end Go.Proofs.Ytbnpmeaaaecciaa.Un
/- union: what stands in a block stays. -/
namespace Go.Proofs.Ytbnpmeaaaecciaa.Un
open Go.RowKit
theorem row_later {w w' : World} {base : Nat} {v : Value} {n : Nat} {xs : List Value} (h : w.ownsRow base 3 1 v n xs) (hb : Below w.heap.size w w') : w'.ownsRow base 3 1 v n xs := by
  refine ⟨h.1, ?_⟩
  rcases h.2 with h2 | ⟨g, cap, cur, hv, hg, hh, r⟩
  · exact .inl h2
  · exact .inr ⟨g, cap, cur, hv, hg, (hb.block g (Array.getElem?_eq_some_iff.1 hh).1).trans hh, r⟩
end Go.Proofs.Ytbnpmeaaaecciaa.Un
/- The document's answer on sets: New, In, Same, Join. -/
namespace Go.Proofs.Ytbnpmeaaaecciaa.Un
open Go.RowKit
attribute [local go_sem] Oper.semAt_some
attribute [local go_sem ↓] builtin_app

/-- An int put behind a row, whatever its type is called. -/
theorem app_int2 (t : TypeId) (ht : Try.prog.underlying t = some (.slice 3)) (B : Nat) (w : World) (hB : B ≤ w.heap.size) (v : Value) (n : Nat) (xs : List Value) (hown : w.ownsRow B 3 1 v n xs) (x : Int) (hn : n ≤ 10000000) :
    ∃ g cp w1, (app_ #[t, t] t #[v, .slice (some ⟨w.heap.size, 0, none⟩) 1 1]).run Try.prog (w.alloc (.cells #[.int .i64 x] 3)) = .ok (.slice (some ⟨g, 0, none⟩) (n + 1) cp) w1 ∧
      w1.ownsRow B 3 1 (.slice (some ⟨g, 0, none⟩) (n + 1) cp) (n + 1) (xs ++ [.int .i64 x]) ∧ Below B w w1 := by
  obtain ⟨i0, hi0, hz0, hz1, hz2⟩ := info_parts intInfo
  have own1 := hown.alloc (.cells #[.int .i64 x] 3)
  have rd1 : Rd (w.alloc (.cells #[.int .i64 x] 3)) 1 (.slice (some ⟨w.heap.size, 0, none⟩) 1 1) 1 [.int .i64 x] := rd_new w [.int .i64 x] 3 1 1 rfl (by unfold maxLen; omega)
  obtain ⟨v', w1, hrun, hown1, hg1, _⟩ := run_append_rd (P := Try.prog) _ B t t 3 i0 _ 1 8 ht hi0 hz0 hz1 hz2 rfl (by omega) v _ _ own1 _ 1 _ rd1 (by simp [Value.oneCell']) (by unfold maxLen; omega) (by omega) (by rw [World.size_alloc]; omega)
  obtain ⟨g, cp, rfl, _, _⟩ := own_shape hown1 (by omega)
  exact ⟨g, cp, w1, hrun, hown1, ((Below.refl B w).alloc hB _).grown hg1 (by rw [World.size_alloc]; omega) fun k hk => (hown.lt k hk).1⟩
theorem row_form {w : World} {B : Nat} {v : Value} {n : Nat} {xs : List Value} (h : w.ownsRow B 3 1 v n xs) : ∃ A c, v = .slice A n c := by
  obtain ⟨A, c, rfl, _⟩ := own_form h; exact ⟨A, c, rfl⟩
set_option maxRecDepth 100000 in
set_option maxHeartbeats 1000000 in
theorem rnew_any (w : World) (n : Nat) (hn : n ≤ 1000000) :
    Calls Try.prog 45 #[.int .i64 (n : Nat)] w fun e w' => ∃ v, e = .returned v ∧ w'.ownsRow w.heap.size 3 1 v n (rowI n fun k => k) ∧ Below w.heap.size w w' := by
  go_enter Try.func45, Try.ntmps45
  go_wp2_with fail
  go_loopw [3, 4] (fun v s wr => ∃ k : Nat, s = .int .i64 (k : Int) ∧ k ≤ n ∧ wr.ownsRow w.heap.size 3 1 v k (rowI k fun k => k) ∧ Below w.heap.size w wr) (fun _ s _ => ((n : Int) - intAt s).toNat)
  case atStart => exact ⟨0, rfl, by omega, World.ownsRow_nil _ _ _ _, Below.refl _ _⟩
  case round =>
    obtain ⟨k, rfl, hk, ho, hb⟩ := hrel
    by_cases hkn : k < n
    · have f1 : decide ((k : Int) < (n : Nat)) = true := decide_eq_true (by omega)
      obtain ⟨Av, cv, rfl⟩ := row_form ho
      obtain ⟨g, cp, w1, hrun, ho1, hb1⟩ := app_int2 44 Try.underlying44 w.heap.size wr hb.size _ k _ ho k (by omega)
      have HR := Lib.hid (And.intro ho1 (hb.trans hb1))
      clear ho hb ho1 hb1
      go_wp2_with fail
      go_roundw
      case rel => exact ⟨k + 1, by go_num, by omega, by rw [rowI_snoc]; exact HR.out.1, HR.out.2⟩
      case measure =>
        simp only [intAt]
        omega
    · have f1 : decide ((k : Int) < (n : Nat)) = false := decide_eq_false (by omega)
      obtain rfl : k = n := by omega
      have HR := Lib.hid (And.intro ho hb)
      clear ho hb
      go_wp2_with fail
      go_ret
      exact ⟨_, rfl, HR.out.1, HR.out.2⟩
set_option maxRecDepth 100000 in
theorem rin_any {w : World} {B : Nat} {v : Value} {n : Nat} {xs : List Value} (h : w.ownsRow B 3 1 v n xs) (i : Int) :
    Calls Try.prog 78 #[v, .int .i64 i] w fun e w' => e = .returned (.bool (decide (0 ≤ i ∧ i < n))) ∧ w' = w := by
  obtain ⟨Av, cv, rfl⟩ := row_form h
  by_cases hi : 0 ≤ i
  · have f1 : decide (0 ≤ i) = true := decide_eq_true hi
    have e1 : decide (0 ≤ i ∧ i < (n : Int)) = decide (i < (n : Int)) := by simp [hi]
    rw [e1]
    go_enter Try.func78, Try.ntmps78
    go_wp2_with fail
    go_ret
    exact ⟨rfl, rfl⟩
  · have f1 : decide (0 ≤ i) = false := decide_eq_false hi
    rw [decide_eq_false (fun h : 0 ≤ i ∧ i < (n : Int) => hi h.1)]
    go_enter Try.func78, Try.ntmps78
    go_wp2_with fail
    go_ret
    exact ⟨rfl, rfl⟩
set_option maxRecDepth 100000 in
set_option maxHeartbeats 1000000 in
theorem rsame_in {w : World} {B : Nat} {v : Value} {n : Nat} {c : Nat → Nat} (h : w.ownsRow B 3 1 v n (rowI n c)) (i j : Nat) (hi : i < n) (hj : j < n) :
    Calls Try.prog 47 #[v, .int .i64 (i : Nat), .int .i64 (j : Nat)] w fun e w' => e = .returned (.bool (c i == c j)) ∧ ∃ q, w' = w.drewN q := by
  obtain ⟨g, cv, rfl, _, _⟩ := own_shape h (by omega)
  have r1 : w.cell? ⟨g, i, none⟩ = some (.int .i64 (c i : Nat)) := (h.cellAt i (by omega)).trans (rowI_get hi)
  have r2 : w.cell? ⟨g, j, none⟩ = some (.int .i64 (c j : Nat)) := (h.cellAt j (by omega)).trans (rowI_get hj)
  have e1 : ((c i : Int) == (c j : Int)) = (c i == c j) := by
    rw [Bool.eq_iff_iff, beq_iff_eq, beq_iff_eq]; omega
  have h1 : decide (0 ≤ (i : Int) ∧ (i : Int) < (n : Int)) = true := decide_eq_true (by omega)
  have h2 : decide (0 ≤ (j : Int) ∧ (j : Int) < (n : Int)) = true := decide_eq_true (by omega)
  have H1 : Hid (Calls Try.prog 78 #[.slice (some ⟨g, 0, none⟩) n cv, .int .i64 (i : Nat)] w.drew fun e w' => e = .returned (.bool true) ∧ w' = w.drew) := Lib.hid (by
    have := rin_any (w := w.drew) (show w.drew.ownsRow B 3 1 (.slice (some ⟨g, 0, none⟩) n cv) n (rowI n c) from h) (i : Int)
    rw [h1] at this
    exact this)
  have H2 : Hid (Calls Try.prog 78 #[.slice (some ⟨g, 0, none⟩) n cv, .int .i64 (j : Nat)] w.drew fun e w' => e = .returned (.bool true) ∧ w' = w.drew) := Lib.hid (by
    have := rin_any (w := w.drew) (show w.drew.ownsRow B 3 1 (.slice (some ⟨g, 0, none⟩) n cv) n (rowI n c) from h) (j : Int)
    rw [h2] at this
    exact this)
  clear h h1 h2
  go_enter Try.func47, Try.ntmps47
  go_wp2_with fail
  refine wp_region_still_lit (by kernel_rfl) (by kernel_rfl) ?_
  repeat still_step
  still_call H1.out
  repeat still_step
  still_call H2.out
  repeat still_step
  refine wpStill_nil ?_
  change Exit.then _ _ _ _ w.drew
  go_wp2_with fail
  go_ret
  exact ⟨rfl, 1, rfl⟩
set_option maxRecDepth 100000 in
set_option maxHeartbeats 1000000 in
theorem rjoin_in {w : World} {B : Nat} {v : Value} {n : Nat} {c : Nat → Nat} (h : w.ownsRow B 3 1 v n (rowI n c)) (x y : Nat) (hx : x < n) (hy : y < n) (hn : n ≤ 1000000) :
    Calls Try.prog 46 #[v, .int .i64 (x : Nat), .int .i64 (y : Nat)] w fun e w' => ∃ v', e = .returned v' ∧ w'.ownsRow w.heap.size 3 1 v' n (rowI n (paint c x y)) ∧ Below w.heap.size w w' := by
  obtain ⟨g, cv, rfl, _, hgl⟩ := own_shape h (by omega)
  have H := Lib.hid h
  clear h
  go_enter Try.func46, Try.ntmps46
  go_wp2_with fail
  go_loopw [7, 8, 9] (fun v s _ wr => ∃ k : Nat, s = .int .i64 (k : Int) ∧ k ≤ n ∧ wr.ownsRow w.heap.size 3 1 v k (rowI k (paint c x y)) ∧ Below w.heap.size w wr) (fun _ s _ _ => ((n : Int) - intAt s).toNat)
  case atStart => exact ⟨0, rfl, by omega, World.ownsRow_nil _ _ _ _, Below.refl _ _⟩
  case round =>
    obtain ⟨k, rfl, hk, ho, hb⟩ := hrel
    by_cases hkn : k < n
    · have f1 : decide ((k : Int) < (n : Nat)) = true := decide_eq_true (by omega)
      have r1 : wr.cell? ⟨g, k, none⟩ = some (.int .i64 (c k : Nat)) := (hb.cell (p := ⟨g, k, none⟩) hgl).trans ((H.out.cellAt k (by omega)).trans (rowI_get hkn))
      have r2 : wr.cell? ⟨g, y, none⟩ = some (.int .i64 (c y : Nat)) := (hb.cell (p := ⟨g, y, none⟩) hgl).trans ((H.out.cellAt y (by omega)).trans (rowI_get hy))
      have r3 : wr.cell? ⟨g, x, none⟩ = some (.int .i64 (c x : Nat)) := (hb.cell (p := ⟨g, x, none⟩) hgl).trans ((H.out.cellAt x (by omega)).trans (rowI_get hx))
      obtain ⟨Av, cw, rfl⟩ := row_form ho
      obtain ⟨g2, cp, w1, hrun, ho1, hb1⟩ := app_int2 44 Try.underlying44 w.heap.size wr hb.size _ k _ ho (paint c x y k : Nat) (by omega)
      have HR := Lib.hid (And.intro ho1 (hb.trans hb1))
      clear ho hb ho1 hb1
      by_cases he : c k = c y
      · have f2 : ((c k : Int) == (c y : Int)) = true := by rw [he]; simp
        have hp : paint c x y k = c x := by unfold paint; rw [if_pos he]
        rw [hp] at hrun
        have HP := Lib.hid hp
        clear he hp
        go_wp2_with fail
        go_roundw
        case rel => exact ⟨k + 1, by go_num, by omega, by rw [rowI_snoc]; exact HR.out.1, HR.out.2⟩
        case measure =>
          simp only [intAt]
          omega
      · have f2 : ((c k : Int) == (c y : Int)) = false := by simp; omega
        have hp : paint c x y k = c k := by unfold paint; rw [if_neg he]
        rw [hp] at hrun
        have HP := Lib.hid hp
        clear he hp
        go_wp2_with fail
        go_roundw
        case rel => exact ⟨k + 1, by go_num, by omega, by rw [rowI_snoc]; exact HR.out.1, HR.out.2⟩
        case measure =>
          simp only [intAt]
          omega
    · have f1 : decide ((k : Int) < (n : Nat)) = false := decide_eq_false (by omega)
      obtain rfl : k = n := by omega
      have HR := Lib.hid (And.intro ho hb)
      clear ho hb
      go_wp2_with fail
      go_ret
      exact ⟨_, rfl, HR.out.1, HR.out.2⟩
theorem mem_step (c : Nat → Nat) (i k : Nat) : mem_ (k + 1) c i = if c i == c k then mem_ k c i ++ [k] else mem_ k c i := by
  unfold mem_
  rw [List.range_succ, List.filter_append]
  by_cases h : c k = c i
  · rw [if_pos (by simp [h])]; simp [h]
  · rw [if_neg (by simp [Ne.symm h])]; simp [h]
end Go.Proofs.Ytbnpmeaaaecciaa.Un
/- An argument that is a type, opened. -/
namespace Go.Proofs.Ytbnpmeaaaecciaa
open Go.RowKit Go.ChangeShapes Go.WideShapes Go.ChangeAt Go.Deep

set_option maxRecDepth 100000 in
theorem ArgT1_open {H : Type} {enc : TypeId × Value → H} {W : World} {v : Value} {d : DataW H} {p : List MemPlace} {r : Reach} {base : Nat}
    (hv : Value.okWide Try.prog W r base 36 v) (h : DataW.Trod enc Try.prog W 0 (fun _ => true) true 36 v d p) : ∃ (k n : Int) (F : Fo) (u : Sl), v = tyVal k n (slv u) ∧ TyV W.heap.size W F (slv u) ∧ (Lit.int .i64 n).wf = true ∧ F.wf := by
  obtain ⟨cs, rfl, hsz⟩ := okWide_struct Try.underlying36 hv
  have hC : Try.prog.cellsOf 36 = 3 := by kernel_rfl
  rw [hC] at hsz
  obtain ⟨fuel, hf⟩ := h
  obtain ⟨ys, n', hn', _, hlen2, hyl, hfld⟩ := DataW.trod_struct Try.underlying36 hf
  have hI : Try.prog.cellsOf 3 = 1 := by kernel_rfl
  have hS : Try.prog.cellsOf 34 = 1 := by kernel_rfl
  have hyl' : ys.length = 3 := hyl
  match cs, hsz with
  | ⟨[c0, c1, c2]⟩, _ =>
    have q0 : DataW.trod enc Try.prog W 0 (fun _ => true) true n' 3 (([c0, c1, c2].drop 0).take (Try.prog.cellsOf 3)) = ys[0]? := hfld 0 _ rfl
    have q1 : DataW.trod enc Try.prog W 0 (fun _ => true) true n' 3 (([c0, c1, c2].drop 1).take (Try.prog.cellsOf 3)) = ys[1]? := hfld 1 _ rfl
    have q2 : DataW.trod enc Try.prog W 0 (fun _ => true) true n' 34 (([c0, c1, c2].drop 2).take (Try.prog.cellsOf 34)) = ys[2]? := hfld 2 _ rfl
    rw [hI, List.getElem?_eq_getElem (by omega)] at q0
    rw [hI, List.getElem?_eq_getElem (by omega)] at q1
    rw [hS, List.getElem?_eq_getElem (by omega)] at q2
    obtain ⟨k0, hk0, _, _⟩ := DataW.trod_int Try.underlying3 q0
    obtain ⟨k1, hk1, _, hw1⟩ := DataW.trod_int Try.underlying3 q1
    obtain ⟨F, u, hu, hF, hFw⟩ := types_read n' c2 _ q2
    simp at hk0 hk1
    subst hk0; subst hk1; subst hu
    exact ⟨k0, k1, F, u, rfl, hF, hw1, hFw⟩
end Go.Proofs.Ytbnpmeaaaecciaa
/- Equations in memory; an argument that is a slice of equations, opened. -/
namespace Go.Proofs.Ytbnpmeaaaecciaa
open Go.RowKit Go.ChangeShapes Go.WideShapes Go.ChangeAt Go.Deep
set_option maxRecDepth 100000
theorem TyV.onward {w w' : World} {f : Fo} {v : Value} (h : TyV w.heap.size w f v) (hb : Below w.heap.size w w') : TyV w'.heap.size w' f v := h.keep hb.size fun b off hlt => hb.cell (p := ⟨b, off, none⟩) hlt
/-- A type: its kind, its number, its slice, its parts. -/
abbrev Ty1 := Int × Int × Sl × Fo
abbrev Eqn := Ty1 × Ty1 × (Int × Int)
def t1V (t : Ty1) : Value := tyVal t.1 t.2.1 (slv t.2.2.1)
/-- An equation's cells. -/
def eqC (x : Eqn) : List Value := [.int .i64 x.1.1, .int .i64 x.1.2.1, slv x.1.2.2.1, .int .i64 x.2.1.1, .int .i64 x.2.1.2.1, slv x.2.1.2.2.1, .int .i64 x.2.2.1, .int .i64 x.2.2.2]
def eqV (x : Eqn) : Value := .agg #[.int .i64 x.1.1, .int .i64 x.1.2.1, slv x.1.2.2.1, .int .i64 x.2.1.1, .int .i64 x.2.1.2.1, slv x.2.1.2.2.1, .int .i64 x.2.2.1, .int .i64 x.2.2.2]
/-- The cells at an address. -/
def EqAt (w : World) (b off : Nat) (x : Eqn) : Prop :=
  w.cell? ⟨b, off, none⟩ = some (.int .i64 x.1.1) ∧ w.cell? ⟨b, off + 1, none⟩ = some (.int .i64 x.1.2.1) ∧ w.cell? ⟨b, off + 2, none⟩ = some (slv x.1.2.2.1) ∧
  w.cell? ⟨b, off + 3, none⟩ = some (.int .i64 x.2.1.1) ∧ w.cell? ⟨b, off + 4, none⟩ = some (.int .i64 x.2.1.2.1) ∧ w.cell? ⟨b, off + 5, none⟩ = some (slv x.2.1.2.2.1) ∧
  w.cell? ⟨b, off + 6, none⟩ = some (.int .i64 x.2.2.1) ∧ w.cell? ⟨b, off + 7, none⟩ = some (.int .i64 x.2.2.2)
/-- Its types, below block B. -/
def EqT (B : Nat) (w : World) (x : Eqn) : Prop := TyV B w x.1.2.2.2 (slv x.1.2.2.1) ∧ TyV B w x.2.1.2.2.2 (slv x.2.1.2.2.1)
/-- A slice value that reads as these equations, below block B. -/
def EqV (B : Nat) (w : World) (l : List Eqn) (v : Value) : Prop :=
  ∃ A c, v = .slice A l.length c ∧ (0 < l.length → ∃ b off, A = some ⟨b, off, none⟩ ∧ b < B ∧ l.length ≤ c ∧ c ≤ maxLen ∧ ∀ i (h : i < l.length), EqAt w b (off + i * 8) l[i]) ∧ ∀ x ∈ l, EqT B w x
/-- Each number is one that an int may be. -/
def TyW (t : Ty1) : Prop := (Lit.int .i64 t.2.1).wf = true ∧ t.2.2.2.wf
def EqW (l : List Eqn) : Prop := ∀ x ∈ l, TyW x.1 ∧ TyW x.2.1
theorem EqAt.keep {w w' : World} {b off : Nat} {x : Eqn} (h : EqAt w b off x) (hk : ∀ off, w'.cell? ⟨b, off, none⟩ = w.cell? ⟨b, off, none⟩) : EqAt w' b off x := by
  obtain ⟨h0, h1, h2, h3, h4, h5, h6, h7⟩ := h
  exact ⟨(hk _).trans h0, (hk _).trans h1, (hk _).trans h2, (hk _).trans h3, (hk _).trans h4, (hk _).trans h5, (hk _).trans h6, (hk _).trans h7⟩
theorem EqT.keep {B B' : Nat} {w w' : World} {x : Eqn} (h : EqT B w x) (hB : B ≤ B') (hk : ∀ b off, b < B → w'.cell? ⟨b, off, none⟩ = w.cell? ⟨b, off, none⟩) : EqT B' w' x := ⟨h.1.keep hB hk, h.2.keep hB hk⟩
theorem EqV.keep {B B' : Nat} {w w' : World} {l : List Eqn} {v : Value} (h : EqV B w l v) (hB : B ≤ B') (hk : ∀ b off, b < B → w'.cell? ⟨b, off, none⟩ = w.cell? ⟨b, off, none⟩) : EqV B' w' l v := by
  obtain ⟨A, c, hv, h1, h2⟩ := h
  refine ⟨A, c, hv, fun hn => ?_, fun x hx => (h2 x hx).keep hB hk⟩
  obtain ⟨b, off, hA, hb, hc, hm, hat⟩ := h1 hn
  exact ⟨b, off, hA, by omega, hc, hm, fun i hi => (hat i hi).keep fun o => hk b o hb⟩
theorem EqV.below {B : Nat} {w w' : World} {l : List Eqn} {v : Value} (h : EqV B w l v) (hb : Below B w w') : EqV B w' l v := h.keep (Nat.le_refl _) fun b off hlt => hb.cell (p := ⟨b, off, none⟩) hlt
theorem EqV.later {w w' : World} {l : List Eqn} {v : Value} (h : EqV w.heap.size w l v) (hb : Below w.heap.size w w') : EqV w'.heap.size w' l v := h.keep hb.size fun b off hlt => hb.cell (p := ⟨b, off, none⟩) hlt
theorem EqV.form {B : Nat} {w : World} {l : List Eqn} {v : Value} (h : EqV B w l v) : ∃ A c, v = .slice A l.length c := by obtain ⟨A, c, hv, _⟩ := h; exact ⟨A, c, hv⟩
theorem EqV.at {B : Nat} {w : World} {l : List Eqn} {A : Option Addr} {n c : Nat} (h : EqV B w l (.slice A n c)) (j : Nat) (hj : j < l.length) : ∃ b off, A = some ⟨b, off, none⟩ ∧ b < B ∧ EqAt w b (off + j * 8) l[j] := by
  obtain ⟨A', c', hv, h1, _⟩ := h
  injection hv with e1 e2 e3
  obtain ⟨b, off, hA, hb, _, _, hat⟩ := h1 (by omega)
  exact ⟨b, off, by rw [e1, hA], hb, hat j hj⟩
theorem EqV.ty {B : Nat} {w : World} {l : List Eqn} {v : Value} (h : EqV B w l v) (j : Nat) (hj : j < l.length) : EqT B w l[j] := by
  obtain ⟨_, _, _, _, h2⟩ := h
  exact h2 _ (List.getElem_mem hj)
theorem ty_read {H : Type} {enc : TypeId × Value → H} {W : World} {fuel : Nat} {c1 c2 c3 : Value} {x : DataW H × List MemPlace} (h : DataW.trod enc Try.prog W 0 (fun _ => true) true fuel 36 [c1, c2, c3] = some x) :
    ∃ t : Ty1, c1 = .int .i64 t.1 ∧ c2 = .int .i64 t.2.1 ∧ c3 = slv t.2.2.1 ∧ TyV W.heap.size W t.2.2.2 (slv t.2.2.1) ∧ TyW t := by
  have hI : Try.prog.cellsOf 3 = 1 := by kernel_rfl
  have hS : Try.prog.cellsOf 34 = 1 := by kernel_rfl
  obtain ⟨zs, n2, hn2, _, hlen3, hzl, hfld2⟩ := DataW.trod_struct Try.underlying36 h
  have p0 : DataW.trod enc Try.prog W 0 (fun _ => true) true n2 3 (([c1, c2, c3].drop 0).take (Try.prog.cellsOf 3)) = zs[0]? := hfld2 0 _ rfl
  have p1 : DataW.trod enc Try.prog W 0 (fun _ => true) true n2 3 (([c1, c2, c3].drop 1).take (Try.prog.cellsOf 3)) = zs[1]? := hfld2 1 _ rfl
  have p2 : DataW.trod enc Try.prog W 0 (fun _ => true) true n2 34 (([c1, c2, c3].drop 2).take (Try.prog.cellsOf 34)) = zs[2]? := hfld2 2 _ rfl
  have hzl' : zs.length = 3 := hzl
  rw [hI, List.getElem?_eq_getElem (by omega)] at p0
  rw [hI, List.getElem?_eq_getElem (by omega)] at p1
  rw [hS, List.getElem?_eq_getElem (by omega)] at p2
  obtain ⟨k1, hk1, _, _⟩ := DataW.trod_int Try.underlying3 p0
  obtain ⟨k2, hk2, _, hw2⟩ := DataW.trod_int Try.underlying3 p1
  obtain ⟨F, u, hu, hF, hFw⟩ := types_read n2 c3 _ p2
  simp at hk1 hk2
  subst hu
  exact ⟨(k1, k2, u, F), hk1, hk2, rfl, hF, hw2, hFw⟩
theorem span_read {H : Type} {enc : TypeId × Value → H} {W : World} {fuel : Nat} {c1 c2 : Value} {x : DataW H × List MemPlace} (h : DataW.trod enc Try.prog W 0 (fun _ => true) true fuel 38 [c1, c2] = some x) :
    ∃ t : Int × Int, c1 = .int .i64 t.1 ∧ c2 = .int .i64 t.2 := by
  have hI : Try.prog.cellsOf 3 = 1 := by kernel_rfl
  obtain ⟨zs, n2, hn2, _, hlen3, hzl, hfld2⟩ := DataW.trod_struct Try.underlying38 h
  have p0 : DataW.trod enc Try.prog W 0 (fun _ => true) true n2 3 (([c1, c2].drop 0).take (Try.prog.cellsOf 3)) = zs[0]? := hfld2 0 _ rfl
  have p1 : DataW.trod enc Try.prog W 0 (fun _ => true) true n2 3 (([c1, c2].drop 1).take (Try.prog.cellsOf 3)) = zs[1]? := hfld2 1 _ rfl
  have hzl' : zs.length = 2 := hzl
  rw [hI, List.getElem?_eq_getElem (by omega)] at p0
  rw [hI, List.getElem?_eq_getElem (by omega)] at p1
  obtain ⟨k1, hk1, _, _⟩ := DataW.trod_int Try.underlying3 p0
  obtain ⟨k2, hk2, _, _⟩ := DataW.trod_int Try.underlying3 p1
  simp at hk1 hk2
  exact ⟨(k1, k2), hk1, hk2⟩
theorem eqs_read {H : Type} {enc : TypeId × Value → H} {W : World} (fuel : Nat) (v : Value) (x : DataW H × List MemPlace) (h : DataW.trod enc Try.prog W 0 (fun _ => true) true fuel 22 [v] = some x) : ∃ (l : List Eqn), EqV W.heap.size W l v ∧ EqW l := by
  rcases DataW.trod_slice Try.underlying22 h with ⟨hcs, _⟩ | ⟨a, len, cap, elems, rest, n, hfu, hcs, _, _, hl, hm, hlen, hel, _, _⟩
  · simp at hcs
    subst hcs
    exact ⟨[], ⟨none, 0, rfl, fun h => by simp at h, fun x hx => by cases hx⟩, fun x hx => by cases hx⟩
  · simp at hcs
    subst hcs
    have hC : Try.prog.cellsOf 40 = 8 := by kernel_rfl
    have hT : Try.prog.cellsOf 36 = 3 := by kernel_rfl
    have hP : Try.prog.cellsOf 38 = 2 := by kernel_rfl
    rw [hC] at hel
    have key : ∀ i, i < len → ∃ t : Eqn, (W.cell? (a.add (i * 8)) = some (.int .i64 t.1.1) ∧ W.cell? ((a.add (i * 8)).add 1) = some (.int .i64 t.1.2.1) ∧ W.cell? ((a.add (i * 8)).add 2) = some (slv t.1.2.2.1) ∧ W.cell? ((a.add (i * 8)).add 3) = some (.int .i64 t.2.1.1) ∧ W.cell? ((a.add (i * 8)).add 4) = some (.int .i64 t.2.1.2.1) ∧ W.cell? ((a.add (i * 8)).add 5) = some (slv t.2.1.2.2.1) ∧ W.cell? ((a.add (i * 8)).add 6) = some (.int .i64 t.2.2.1) ∧ W.cell? ((a.add (i * 8)).add 7) = some (.int .i64 t.2.2.2)) ∧ EqT W.heap.size W t ∧ TyW t.1 ∧ TyW t.2.1 := by
      intro i hil
      have he := hel i hil
      rw [List.getElem?_eq_getElem (by omega)] at he
      obtain ⟨cs', hc, ht'⟩ := Option.bind_eq_some_iff.1 he
      obtain ⟨ys, n', hn', _, hlen2, hyl, hfld⟩ := DataW.trod_struct Try.underlying40 ht'
      rw [hC] at hlen2
      obtain ⟨_, hcl, hat⟩ := World.cells?_some hc
      have q0 : DataW.trod enc Try.prog W 0 (fun _ => true) true n' 36 ((cs'.drop 0).take (Try.prog.cellsOf 36)) = ys[0]? := hfld 0 _ rfl
      have q1 : DataW.trod enc Try.prog W 0 (fun _ => true) true n' 36 ((cs'.drop 3).take (Try.prog.cellsOf 36)) = ys[1]? := hfld 1 _ rfl
      have q2 : DataW.trod enc Try.prog W 0 (fun _ => true) true n' 38 ((cs'.drop 6).take (Try.prog.cellsOf 38)) = ys[2]? := hfld 2 _ rfl
      have hyl' : ys.length = 3 := hyl
      rw [hT, List.getElem?_eq_getElem (by omega)] at q0
      rw [hT, List.getElem?_eq_getElem (by omega)] at q1
      rw [hP, List.getElem?_eq_getElem (by omega)] at q2
      match cs', hlen2 with
      | [c0, c1, c2, c3, c4, c5, c6, c7], _ =>
        obtain ⟨tl, a0, a1, a2, aT, aW⟩ := ty_read (c1 := c0) (c2 := c1) (c3 := c2) q0
        obtain ⟨tr, b0, b1, b2, bT, bW⟩ := ty_read (c1 := c3) (c2 := c4) (c3 := c5) q1
        obtain ⟨sp, s0, s1⟩ := span_read (c1 := c6) (c2 := c7) q2
        subst a0 a1 a2 b0 b1 b2 s0 s1
        refine ⟨(tl, tr, sp), ⟨?_, ?_, ?_, ?_, ?_, ?_, ?_, ?_⟩, ⟨aT, bT⟩, aW, bW⟩
        · have := hat 0 (by omega)
          simpa [Addr.add] using this
        · exact hat 1 (by omega)
        · exact hat 2 (by omega)
        · exact hat 3 (by omega)
        · exact hat 4 (by omega)
        · exact hat 5 (by omega)
        · exact hat 6 (by omega)
        · exact hat 7 (by omega)
    by_cases h0 : len = 0
    · subst h0
      exact ⟨[], ⟨_, _, rfl, fun h => by simp at h, fun x hx => by cases hx⟩, fun x hx => by cases hx⟩
    · obtain ⟨b, off, spot⟩ := a
      obtain ⟨t0, ⟨hc0, _⟩, _⟩ := key 0 (by omega)
      have hspot : spot = none := by simpa [Addr.add] using World.cell?_spot hc0
      subst hspot
      have hb : b < W.heap.size := by simpa [Addr.add] using World.block_lt_of_cell? _ _ hc0
      obtain ⟨ts, htl, hP⟩ := listOf _ len key
      subst htl
      simp only [Addr.add_lit] at hP
      refine ⟨ts, ⟨_, _, rfl, fun _ => ⟨b, off, rfl, hb, hl, hm, fun i hi => (hP i hi).1⟩, fun x hx => ?_⟩, fun x hx => ?_⟩
      · obtain ⟨i, hi, rfl⟩ := List.mem_iff_getElem.1 hx
        exact (hP i hi).2.1
      · obtain ⟨i, hi, rfl⟩ := List.mem_iff_getElem.1 hx
        exact (hP i hi).2.2
def ArgE (W : World) (v : Value) (l : List Eqn) : Prop := EqV W.heap.size W l v ∧ EqW l
theorem ArgE_open {H : Type} {enc : TypeId × Value → H} {W : World} {r : Reach} {b0 : Nat} {v : Value} {d : DataW H} {p : List MemPlace} (hval : Value.okWide Try.prog W r b0 22 v)
    (h : DataW.Trod enc Try.prog W 0 (fun _ => true) true 22 v d p) : ∃ l, ArgE W v l := by
  obtain ⟨a0, len, cap, rfl⟩ := okWide_slice Try.underlying22 hval
  obtain ⟨fuel, hf⟩ := h
  exact eqs_read fuel _ _ hf
end Go.Proofs.Ytbnpmeaaaecciaa
/- unify's laws: is there room for a type? -/
namespace Go.Proofs.Ytbnpmeaaaecciaa
open Go.RowKit

set_option maxHeartbeats 1000000 in
set_option maxRecDepth 100000 in
theorem room12 (deep : Nat) : ∀ (f : Fo) (k n0 : Int) (v : Value) (n : Nat) (w : World), deep ≤ 40 → n ≤ 300 → TyV w.heap.size w f v →
    Calls Try.prog 64 #[tyVal k n0 v, .int .i64 n, .int .i64 deep] w fun e w' => ∃ r, e = .returned (.int .i64 r) ∧ Below w.heap.size w w' ∧ RoomIs n deep f r := by
  induction deep with
  | zero =>
    intro f k n0 v n w hd hn h
    obtain ⟨A, c, rfl⟩ := h.slice
    clear h
    unfold tyVal
    go_enter Try.func64, Try.ntmps64
    go_wp2_with fail
    go_ret
    exact ⟨_, rfl, (Below.refl _ _).alloc (Nat.le_refl _) _, RoomIs.zero n f⟩
  | succ deep ih =>
    intro f k n0 v n w hd hn h
    obtain ⟨A, c, rfl⟩ := h.slice
    have H := Lib.hid h
    have IH := Lib.hid ih
    have hml : f.len ≤ maxLen := by
      rcases Nat.eq_zero_or_pos f.len with h0 | h0
      · omega
      · obtain ⟨_, _, cap, _, h1, h2, _⟩ := h.form h0
        exact Nat.le_trans h1 h2
    replace hml : f.len ≤ 9223372036854775807 := by unfold maxLen at hml; omega
    clear h ih
    rw [show (((deep + 1 : Nat)) : Int) = (deep : Int) + 1 from by omega]
    unfold tyVal
    go_enter Try.func64, Try.ntmps64
    have HB0 := Lib.hid (show ∀ (cs : Array Value) (t : TypeId), Below w.heap.size w (w.alloc (Obj.cells cs t)) from fun cs t => (Below.refl _ w).alloc (Nat.le_refl _) _)
    have f1 : ((deep : Int) + 1 == 0) = false := beq_eq_false_iff_ne.2 (by omega)
    go_wp2_with fail
    go_loopw [1, 7] (fun t1 t7 wr => ∃ (j : Nat) (r : Int), j ≤ f.len ∧ t7 = .int .i64 j ∧ t1 = .int .i64 r ∧ RoomIs n (deep + 1) (f.take j) r ∧ wr.cell? ⟨w.heap.size, 2, none⟩ = some (.slice A f.len c) ∧ Below w.heap.size w wr ∧ w.heap.size + 1 ≤ wr.heap.size) (fun _ t _ => f.len - (intOf t).toNat)
    case atStart =>
      refine ⟨0, (n : Int) - 1, Nat.zero_le _, rfl, by go_num, ?_, by go_simp, HB0.out _ _, by simp⟩
      unfold RoomIs
      simp only [Fo.take_zero, Fo.size, Fo.depth]
      omega
    case round =>
      obtain ⟨j, r, hj, rfl, rfl, hr, e2, hb, hz⟩ := hrel
      have HB := Lib.hid hb
      have HR := Lib.hid hr
      have hr0 : -1 ≤ r ∧ r ≤ n := ⟨hr.1, hr.2.1⟩
      clear hb hr
      by_cases hjl : j < f.len
      · by_cases hr1 : 0 ≤ r
        · obtain ⟨rn, rfl⟩ := Int.eq_ofNat_of_zero_le hr1
          obtain ⟨b, off, cap, hv, _, _, hlt, hC⟩ := H.out.form (by omega)
          injection hv with hA _ hcc
          subst hA; subst hcc
          obtain ⟨d0, d1, d2, hch⟩ := tyC_at hC j hjl
          have c0 := (HB.out.cell (p := ⟨b, off + j * 3, none⟩) hlt).trans d0
          have c1 := (HB.out.cell (p := ⟨b, off + j * 3 + 1, none⟩) hlt).trans d1
          have c2 := (HB.out.cell (p := ⟨b, off + j * 3 + 2, none⟩) hlt).trans d2
          have hch' : TyV wr.heap.size wr (f.at_ j).2.2.2 (slv (f.at_ j).2.2.1) := hch.keep HB.out.size fun b off hb' => HB.out.cell (p := ⟨b, off, none⟩) hb'
          have HST := Lib.hid (f.size_take_step j hjl)
          have HDT := Lib.hid (f.depth_take_step j hjl)
          have hrec := IH.out (f.at_ j).2.2.2 (f.at_ j).1 (f.at_ j).2.1 (slv (f.at_ j).2.2.1) rn wr (by omega) (by omega) hch'
          clear d0 d1 d2 hC hch hch'
          unfold tyVal at hrec
          generalize f.at_ j = p at *
          obtain ⟨pk, pn, pv, pf⟩ := p
          dsimp only [slv] at hrec c0 c1 c2
          have HREC := Lib.hid hrec
          clear hrec
          have f2 : decide ((0 : Int) ≤ rn) = true := decide_eq_true hr1
          go_wp2_with fail
          refine HREC.out.mono ?_
          rintro e w2 ⟨r2, rfl, hb3, hr2⟩
          have e2' := (hb3.cell (p := ⟨w.heap.size, 2, none⟩) (by show w.heap.size < wr.heap.size; omega)).trans e2
          have HB3 := Lib.hid hb3
          have HR2 := Lib.hid hr2
          clear hb3 hr2
          go_wp2_with fail
          go_roundw
          case rel =>
            refine ⟨j + 1, r2, by omega, by go_num, rfl, ?_, e2', HB.out.trans (HB3.out.mono (by omega)), Nat.le_trans hz HB3.out.size⟩
            have h1 := HR.out
            have h2 := HR2.out
            have h3 := HST.out
            have h4 := HDT.out
            unfold RoomIs at h1 h2 ⊢
            omega
          case measure => simp [intOf]; omega
        · have f2 : decide ((0 : Int) ≤ r) = false := decide_eq_false hr1
          have HTL := Lib.hid (f.size_take_le j)
          have HDL := Lib.hid (f.depth_take_le j)
          go_wp2_with fail
          go_ret
          refine ⟨_, rfl, HB.out, ?_⟩
          have h1 := HR.out
          have h3 := HTL.out
          have h4 := HDL.out
          unfold RoomIs at h1 ⊢
          omega
      · obtain rfl : j = f.len := by omega
        have HT : Hid (f.take f.len = f) := Lib.hid f.take_len
        go_wp2_with fail
        go_ret
        refine ⟨_, rfl, HB.out, ?_⟩
        have h1 := HR.out
        rwa [HT.out] at h1
set_option maxHeartbeats 1000000 in
/-- Is there more than is asked of? -/
theorem big12 (f : Fo) (k n0 : Int) (v : Value) (w : World) (h : TyV w.heap.size w f v) :
    Calls Try.prog 32 #[tyVal k n0 v] w fun e w' => e = .returned (.bool (!(decide (1 + f.size ≤ 100) && decide (1 + f.depth ≤ 30)))) ∧ Below w.heap.size w w' := by
  obtain ⟨A, c, rfl⟩ := h.slice
  obtain ⟨w1, hw1⟩ : ∃ w1, w.alloc (Obj.cells #[.int .i64 k, .int .i64 n0, .slice A f.len c] 36) = w1 := ⟨_, rfl⟩
  have hb1 : Below w.heap.size w w1 := by rw [← hw1]; exact (Below.refl _ _).alloc (Nat.le_refl _) _
  have hs1 := hb1.size
  have hc := room12 30 f k n0 (.slice A f.len c) 100 w1 (by omega) (by omega) (h.keep hs1 fun b off hb' => hb1.cell (p := ⟨b, off, none⟩) hb')
  rw [← hw1] at hc
  have HC := Lib.hid hc
  have HB1 := Lib.hid hb1
  have HW1 := Lib.hid hw1
  clear h hc hs1 hb1 hw1
  unfold tyVal at HC ⊢
  go_enter Try.func32, Try.ntmps32
  go_wp2_with fail
  refine HC.out.mono ?_
  rintro e w' ⟨r, rfl, hb, hr⟩
  have hd : decide (r < 0) = !(decide (1 + f.size ≤ 100) && decide (1 + f.depth ≤ 30)) := by
    unfold RoomIs at hr
    by_cases h1 : r < 0
    · have : ¬ (1 + f.size ≤ 100 ∧ 1 + f.depth ≤ 30) := by omega
      rw [decide_eq_true h1]
      simp only [← Bool.decide_and, decide_eq_false this]
      rfl
    · have : 1 + f.size ≤ 100 ∧ 1 + f.depth ≤ 30 := by omega
      rw [decide_eq_false h1]
      simp only [← Bool.decide_and, decide_eq_true this]
      rfl
  have HD := Lib.hid hd
  rw [HW1.out] at hb
  have HB := Lib.hid (show Below w.heap.size w w' from HB1.out.trans (hb.mono HB1.out.size))
  clear hd hr hb
  go_wp2_with fail
  go_ret
  exact ⟨ret_bool HD.out, HB.out⟩
end Go.Proofs.Ytbnpmeaaaecciaa
