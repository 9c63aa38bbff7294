/- Texts of one proof, one behind the other. -/
import Derived.Test.YtbnpmeaaaecciaaGreatMgUnifyClasses16
import Derived.Deep.RegionHeld3
import Derived.Deep.QuietTactic
import Derived.BigQuiet
import Derived.StillTactics
import Derived.Test.YtbnpmeaaaecciaaGreatMgUnifyClasses2
import Derived.Deep.RegionLaw
import Derived.Test.YtbnpmeaaaecciaaGreatMgUnifyClasses7
import Derived.Test.YtbnpmeaaaecciaaGreatMgUnifyClasses11
/- union: what stands in a block stays. -/
namespace Go.Proofs.YtbnpmeaaaecciaaGreat.Un
open Go.RowKit
theorem row_later {w w' : World} {base : Nat} {v : Value} {n : Nat} {xs : List Value} (h : w.ownsRow base 3 1 v n xs) (hb : Below w.heap.size w w') : w'.ownsRow base 3 1 v n xs := by
  refine ⟨h.1, ?_⟩
  rcases h.2 with h2 | ⟨g, cap, cur, hv, hg, hh, r⟩
  · exact .inl h2
  · exact .inr ⟨g, cap, cur, hv, hg, (hb.block g (Array.getElem?_eq_some_iff.1 hh).1).trans hh, r⟩
end Go.Proofs.YtbnpmeaaaecciaaGreat.Un
/- The document's answer on sets: New, In, Same, Join. -/
namespace Go.Proofs.YtbnpmeaaaecciaaGreat.Un
open Go.RowKit
attribute [local go_sem] Oper.semAt_some
attribute [local go_sem ↓] builtin_app

/-- An int put behind a row, whatever its type is called. -/
theorem app_int2 (t : TypeId) (ht : Tryz.prog.underlying t = some (.slice 3)) (B : Nat) (w : World) (hB : B ≤ w.heap.size) (v : Value) (n : Nat) (xs : List Value) (hown : w.ownsRow B 3 1 v n xs) (x : Int) (hn : n ≤ 10000000) :
    ∃ g cp w1, (app_ #[t, t] t #[v, .slice (some ⟨w.heap.size, 0, none⟩) 1 1]).run Tryz.prog (w.alloc (.cells #[.int .i64 x] 3)) = .ok (.slice (some ⟨g, 0, none⟩) (n + 1) cp) w1 ∧
      w1.ownsRow B 3 1 (.slice (some ⟨g, 0, none⟩) (n + 1) cp) (n + 1) (xs ++ [.int .i64 x]) ∧ Below B w w1 := by
  obtain ⟨i0, hi0, hz0, hz1, hz2⟩ := info_parts intInfo
  have own1 := hown.alloc (.cells #[.int .i64 x] 3)
  have rd1 : Rd (w.alloc (.cells #[.int .i64 x] 3)) 1 (.slice (some ⟨w.heap.size, 0, none⟩) 1 1) 1 [.int .i64 x] := rd_new w [.int .i64 x] 3 1 1 rfl (by unfold maxLen; omega)
  obtain ⟨v', w1, hrun, hown1, hg1, _⟩ := run_append_rd (P := Tryz.prog) _ B t t 3 i0 _ 1 8 ht hi0 hz0 hz1 hz2 rfl (by omega) v _ _ own1 _ 1 _ rd1 (by simp [Value.oneCell']) (by unfold maxLen; omega) (by omega) (by rw [World.size_alloc]; omega)
  obtain ⟨g, cp, rfl, _, _⟩ := own_shape hown1 (by omega)
  exact ⟨g, cp, w1, hrun, hown1, ((Below.refl B w).alloc hB _).grown hg1 (by rw [World.size_alloc]; omega) fun k hk => (hown.lt k hk).1⟩
theorem row_form {w : World} {B : Nat} {v : Value} {n : Nat} {xs : List Value} (h : w.ownsRow B 3 1 v n xs) : ∃ A c, v = .slice A n c := by
  obtain ⟨A, c, rfl, _⟩ := own_form h; exact ⟨A, c, rfl⟩
set_option maxRecDepth 100000 in
set_option maxHeartbeats 1000000 in
theorem rnew_any (w : World) (n : Nat) (hn : n ≤ 1000000) :
    Calls Tryz.prog 35 #[.int .i64 (n : Nat)] w fun e w' => ∃ v, e = .returned v ∧ w'.ownsRow w.heap.size 3 1 v n (rowI n fun k => k) ∧ Below w.heap.size w w' := by
  go_enter Tryz.func35, Tryz.ntmps35
  go_wp2_with fail
  go_loopw [3, 4] (fun v s wr => ∃ k : Nat, s = .int .i64 (k : Int) ∧ k ≤ n ∧ wr.ownsRow w.heap.size 3 1 v k (rowI k fun k => k) ∧ Below w.heap.size w wr) (fun _ s _ => ((n : Int) - intAt s).toNat)
  case atStart => exact ⟨0, rfl, by omega, World.ownsRow_nil _ _ _ _, Below.refl _ _⟩
  case round =>
    obtain ⟨k, rfl, hk, ho, hb⟩ := hrel
    by_cases hkn : k < n
    · have f1 : decide ((k : Int) < (n : Nat)) = true := decide_eq_true (by omega)
      obtain ⟨Av, cv, rfl⟩ := row_form ho
      obtain ⟨g, cp, w1, hrun, ho1, hb1⟩ := app_int2 42 Tryz.underlying42 w.heap.size wr hb.size _ k _ ho k (by omega)
      have HR := Lib.hid (And.intro ho1 (hb.trans hb1))
      clear ho hb ho1 hb1
      go_wp2_with fail
      go_roundw
      case rel => exact ⟨k + 1, by go_num, by omega, by rw [rowI_snoc]; exact HR.out.1, HR.out.2⟩
      case measure =>
        simp only [intAt]
        omega
    · have f1 : decide ((k : Int) < (n : Nat)) = false := decide_eq_false (by omega)
      obtain rfl : k = n := by omega
      have HR := Lib.hid (And.intro ho hb)
      clear ho hb
      go_wp2_with fail
      go_ret
      exact ⟨_, rfl, HR.out.1, HR.out.2⟩
set_option maxRecDepth 100000 in
theorem rin_any {w : World} {B : Nat} {v : Value} {n : Nat} {xs : List Value} (h : w.ownsRow B 3 1 v n xs) (i : Int) :
    Calls Tryz.prog 62 #[v, .int .i64 i] w fun e w' => e = .returned (.bool (decide (0 ≤ i ∧ i < n))) ∧ w' = w := by
  obtain ⟨Av, cv, rfl⟩ := row_form h
  by_cases hi : 0 ≤ i
  · have f1 : decide (0 ≤ i) = true := decide_eq_true hi
    have e1 : decide (0 ≤ i ∧ i < (n : Int)) = decide (i < (n : Int)) := by simp [hi]
    rw [e1]
    go_enter Tryz.func62, Tryz.ntmps62
    go_wp2_with fail
    go_ret
    exact ⟨rfl, rfl⟩
  · have f1 : decide (0 ≤ i) = false := decide_eq_false hi
    rw [decide_eq_false (fun h : 0 ≤ i ∧ i < (n : Int) => hi h.1)]
    go_enter Tryz.func62, Tryz.ntmps62
    go_wp2_with fail
    go_ret
    exact ⟨rfl, rfl⟩
set_option maxRecDepth 100000 in
set_option maxHeartbeats 1000000 in
theorem rsame_in {w : World} {B : Nat} {v : Value} {n : Nat} {c : Nat → Nat} (h : w.ownsRow B 3 1 v n (rowI n c)) (i j : Nat) (hi : i < n) (hj : j < n) :
    Calls Tryz.prog 37 #[v, .int .i64 (i : Nat), .int .i64 (j : Nat)] w fun e w' => e = .returned (.bool (c i == c j)) ∧ ∃ q, w' = w.drewN q := by
  obtain ⟨g, cv, rfl, _, _⟩ := own_shape h (by omega)
  have r1 : w.cell? ⟨g, i, none⟩ = some (.int .i64 (c i : Nat)) := (h.cellAt i (by omega)).trans (rowI_get hi)
  have r2 : w.cell? ⟨g, j, none⟩ = some (.int .i64 (c j : Nat)) := (h.cellAt j (by omega)).trans (rowI_get hj)
  have e1 : ((c i : Int) == (c j : Int)) = (c i == c j) := by
    rw [Bool.eq_iff_iff, beq_iff_eq, beq_iff_eq]; omega
  have h1 : decide (0 ≤ (i : Int) ∧ (i : Int) < (n : Int)) = true := decide_eq_true (by omega)
  have h2 : decide (0 ≤ (j : Int) ∧ (j : Int) < (n : Int)) = true := decide_eq_true (by omega)
  have H1 : Hid (Calls Tryz.prog 62 #[.slice (some ⟨g, 0, none⟩) n cv, .int .i64 (i : Nat)] w.drew fun e w' => e = .returned (.bool true) ∧ w' = w.drew) := Lib.hid (by
    have := rin_any (w := w.drew) (show w.drew.ownsRow B 3 1 (.slice (some ⟨g, 0, none⟩) n cv) n (rowI n c) from h) (i : Int)
    rw [h1] at this
    exact this)
  have H2 : Hid (Calls Tryz.prog 62 #[.slice (some ⟨g, 0, none⟩) n cv, .int .i64 (j : Nat)] w.drew fun e w' => e = .returned (.bool true) ∧ w' = w.drew) := Lib.hid (by
    have := rin_any (w := w.drew) (show w.drew.ownsRow B 3 1 (.slice (some ⟨g, 0, none⟩) n cv) n (rowI n c) from h) (j : Int)
    rw [h2] at this
    exact this)
  clear h h1 h2
  go_enter Tryz.func37, Tryz.ntmps37
  go_wp2_with fail
  refine wp_region_still_lit (by kernel_rfl) (by kernel_rfl) ?_
  repeat still_step
  still_call H1.out
  repeat still_step
  still_call H2.out
  repeat still_step
  refine wpStill_nil ?_
  change Exit.then _ _ _ _ w.drew
  go_wp2_with fail
  go_ret
  exact ⟨rfl, 1, rfl⟩
set_option maxRecDepth 100000 in
set_option maxHeartbeats 1000000 in
theorem rjoin_in {w : World} {B : Nat} {v : Value} {n : Nat} {c : Nat → Nat} (h : w.ownsRow B 3 1 v n (rowI n c)) (x y : Nat) (hx : x < n) (hy : y < n) (hn : n ≤ 1000000) :
    Calls Tryz.prog 36 #[v, .int .i64 (x : Nat), .int .i64 (y : Nat)] w fun e w' => ∃ v', e = .returned v' ∧ w'.ownsRow w.heap.size 3 1 v' n (rowI n (paint c x y)) ∧ Below w.heap.size w w' := by
  obtain ⟨g, cv, rfl, _, hgl⟩ := own_shape h (by omega)
  have H := Lib.hid h
  clear h
  go_enter Tryz.func36, Tryz.ntmps36
  go_wp2_with fail
  go_loopw [7, 8, 9] (fun v s _ wr => ∃ k : Nat, s = .int .i64 (k : Int) ∧ k ≤ n ∧ wr.ownsRow w.heap.size 3 1 v k (rowI k (paint c x y)) ∧ Below w.heap.size w wr) (fun _ s _ _ => ((n : Int) - intAt s).toNat)
  case atStart => exact ⟨0, rfl, by omega, World.ownsRow_nil _ _ _ _, Below.refl _ _⟩
  case round =>
    obtain ⟨k, rfl, hk, ho, hb⟩ := hrel
    by_cases hkn : k < n
    · have f1 : decide ((k : Int) < (n : Nat)) = true := decide_eq_true (by omega)
      have r1 : wr.cell? ⟨g, k, none⟩ = some (.int .i64 (c k : Nat)) := (hb.cell (p := ⟨g, k, none⟩) hgl).trans ((H.out.cellAt k (by omega)).trans (rowI_get hkn))
      have r2 : wr.cell? ⟨g, y, none⟩ = some (.int .i64 (c y : Nat)) := (hb.cell (p := ⟨g, y, none⟩) hgl).trans ((H.out.cellAt y (by omega)).trans (rowI_get hy))
      have r3 : wr.cell? ⟨g, x, none⟩ = some (.int .i64 (c x : Nat)) := (hb.cell (p := ⟨g, x, none⟩) hgl).trans ((H.out.cellAt x (by omega)).trans (rowI_get hx))
      obtain ⟨Av, cw, rfl⟩ := row_form ho
      obtain ⟨g2, cp, w1, hrun, ho1, hb1⟩ := app_int2 42 Tryz.underlying42 w.heap.size wr hb.size _ k _ ho (paint c x y k : Nat) (by omega)
      have HR := Lib.hid (And.intro ho1 (hb.trans hb1))
      clear ho hb ho1 hb1
      by_cases he : c k = c y
      · have f2 : ((c k : Int) == (c y : Int)) = true := by rw [he]; simp
        have hp : paint c x y k = c x := by unfold paint; rw [if_pos he]
        rw [hp] at hrun
        have HP := Lib.hid hp
        clear he hp
        go_wp2_with fail
        go_roundw
        case rel => exact ⟨k + 1, by go_num, by omega, by rw [rowI_snoc]; exact HR.out.1, HR.out.2⟩
        case measure =>
          simp only [intAt]
          omega
      · have f2 : ((c k : Int) == (c y : Int)) = false := by simp; omega
        have hp : paint c x y k = c k := by unfold paint; rw [if_neg he]
        rw [hp] at hrun
        have HP := Lib.hid hp
        clear he hp
        go_wp2_with fail
        go_roundw
        case rel => exact ⟨k + 1, by go_num, by omega, by rw [rowI_snoc]; exact HR.out.1, HR.out.2⟩
        case measure =>
          simp only [intAt]
          omega
    · have f1 : decide ((k : Int) < (n : Nat)) = false := decide_eq_false (by omega)
      obtain rfl : k = n := by omega
      have HR := Lib.hid (And.intro ho hb)
      clear ho hb
      go_wp2_with fail
      go_ret
      exact ⟨_, rfl, HR.out.1, HR.out.2⟩
theorem mem_step (c : Nat → Nat) (i k : Nat) : mem_ (k + 1) c i = if c i == c k then mem_ k c i ++ [k] else mem_ k c i := by
  unfold mem_
  rw [List.range_succ, List.filter_append]
  by_cases h : c k = c i
  · rw [if_pos (by simp [h])]; simp [h]
  · rw [if_neg (by simp [Ne.symm h])]; simp [h]
end Go.Proofs.YtbnpmeaaaecciaaGreat.Un
/- An append as one step of a region that draws, by its run. Nothing here speaks of the program. -/
namespace Go.Proofs.YtbnpmeaaaecciaaGreat
open Go.RowKit
theorem step_app {P : Program} {ops : Array Oper} {o : Oper} {a : Act} {w : World} {K : Act → World → Prop} {Q : Exit → Act → World → Prop} {E : Prop} (hgd : o.guard = none) (s x : Operand) (t : TypeId)
    (ho : o.op = .call { callee := .builtin .append, args := #[s, x], argTypes := #[t, t] }) {vs vx v' : Value} {w' : World} (hrun : (app_ #[t, t] o.type #[vs, vx]).run P w = .ok v' w')
    (hs : a.eval s = vs) (hx : a.eval x = vx) (h : K (a.put o.dst v') w') : if Region.wanted o (yielded ops a.tmps) = true then Oper.wp P o a w K Q else E := by
  have hw : Region.wanted o (yielded ops a.tmps) = true := by simp [Region.wanted, hgd]
  rw [if_pos hw]
  have hrun2 : (Builtin.append_ #[t, t] o.type #[vs, vx]).run P w = .ok v' w' := hrun
  unfold Oper.wp
  simp [execOp, ho, resolve, invoke, builtin, hs, hx, hrun2, Result.andThen]
  exact h
end Go.Proofs.YtbnpmeaaaecciaaGreat
/- An argument that is a type, opened. -/
namespace Go.Proofs.YtbnpmeaaaecciaaGreat
open Go.RowKit Go.ChangeShapes Go.WideShapes Go.ChangeAt Go.Deep

set_option maxRecDepth 100000 in
theorem ArgT1_open {H : Type} {enc : TypeId × Value → H} {W : World} {v : Value} {d : DataW H} {p : List MemPlace} {r : Reach} {base : Nat}
    (hv : Value.okWide Tryz.prog W r base 30 v) (h : DataW.Trod enc Tryz.prog W 0 (fun _ => true) true 30 v d p) : ∃ (k n : Int) (F : Fo) (u : Sl), v = tyVal k n (slv u) ∧ TyV W.heap.size W F (slv u) ∧ (Lit.int .i64 n).wf = true ∧ F.wf := by
  obtain ⟨cs, rfl, hsz⟩ := okWide_struct Tryz.underlying30 hv
  have hC : Tryz.prog.cellsOf 30 = 3 := by kernel_rfl
  rw [hC] at hsz
  obtain ⟨fuel, hf⟩ := h
  obtain ⟨ys, n', hn', _, hlen2, hyl, hfld⟩ := DataW.trod_struct Tryz.underlying30 hf
  have hI : Tryz.prog.cellsOf 3 = 1 := by kernel_rfl
  have hS : Tryz.prog.cellsOf 28 = 1 := by kernel_rfl
  have hyl' : ys.length = 3 := hyl
  match cs, hsz with
  | ⟨[c0, c1, c2]⟩, _ =>
    have q0 : DataW.trod enc Tryz.prog W 0 (fun _ => true) true n' 3 (([c0, c1, c2].drop 0).take (Tryz.prog.cellsOf 3)) = ys[0]? := hfld 0 _ rfl
    have q1 : DataW.trod enc Tryz.prog W 0 (fun _ => true) true n' 3 (([c0, c1, c2].drop 1).take (Tryz.prog.cellsOf 3)) = ys[1]? := hfld 1 _ rfl
    have q2 : DataW.trod enc Tryz.prog W 0 (fun _ => true) true n' 28 (([c0, c1, c2].drop 2).take (Tryz.prog.cellsOf 28)) = ys[2]? := hfld 2 _ rfl
    rw [hI, List.getElem?_eq_getElem (by omega)] at q0
    rw [hI, List.getElem?_eq_getElem (by omega)] at q1
    rw [hS, List.getElem?_eq_getElem (by omega)] at q2
    obtain ⟨k0, hk0, _, _⟩ := DataW.trod_int Tryz.underlying3 q0
    obtain ⟨k1, hk1, _, hw1⟩ := DataW.trod_int Tryz.underlying3 q1
    obtain ⟨F, u, hu, hF, hFw⟩ := types_read n' c2 _ q2
    simp at hk0 hk1
    subst hk0; subst hk1; subst hu
    exact ⟨k0, k1, F, u, rfl, hF, hw1, hFw⟩
end Go.Proofs.YtbnpmeaaaecciaaGreat
/- Equations in memory; an argument that is a slice of equations, opened. -/
namespace Go.Proofs.YtbnpmeaaaecciaaGreat
open Go.RowKit Go.ChangeShapes Go.WideShapes Go.ChangeAt Go.Deep
set_option maxRecDepth 100000
theorem TyV.onward {w w' : World} {f : Fo} {v : Value} (h : TyV w.heap.size w f v) (hb : Below w.heap.size w w') : TyV w'.heap.size w' f v := h.keep hb.size fun b off hlt => hb.cell (p := ⟨b, off, none⟩) hlt
/-- A type: its kind, its number, its slice, its parts. -/
abbrev Ty1 := Int × Int × Sl × Fo
abbrev Eqn := Ty1 × Ty1 × (Int × Int)
def t1V (t : Ty1) : Value := tyVal t.1 t.2.1 (slv t.2.2.1)
/-- An equation's cells. -/
def eqC (x : Eqn) : List Value := [.int .i64 x.1.1, .int .i64 x.1.2.1, slv x.1.2.2.1, .int .i64 x.2.1.1, .int .i64 x.2.1.2.1, slv x.2.1.2.2.1, .int .i64 x.2.2.1, .int .i64 x.2.2.2]
def eqV (x : Eqn) : Value := .agg #[.int .i64 x.1.1, .int .i64 x.1.2.1, slv x.1.2.2.1, .int .i64 x.2.1.1, .int .i64 x.2.1.2.1, slv x.2.1.2.2.1, .int .i64 x.2.2.1, .int .i64 x.2.2.2]
/-- The cells at an address. -/
def EqAt (w : World) (b off : Nat) (x : Eqn) : Prop :=
  w.cell? ⟨b, off, none⟩ = some (.int .i64 x.1.1) ∧ w.cell? ⟨b, off + 1, none⟩ = some (.int .i64 x.1.2.1) ∧ w.cell? ⟨b, off + 2, none⟩ = some (slv x.1.2.2.1) ∧
  w.cell? ⟨b, off + 3, none⟩ = some (.int .i64 x.2.1.1) ∧ w.cell? ⟨b, off + 4, none⟩ = some (.int .i64 x.2.1.2.1) ∧ w.cell? ⟨b, off + 5, none⟩ = some (slv x.2.1.2.2.1) ∧
  w.cell? ⟨b, off + 6, none⟩ = some (.int .i64 x.2.2.1) ∧ w.cell? ⟨b, off + 7, none⟩ = some (.int .i64 x.2.2.2)
/-- Its types, below block B. -/
def EqT (B : Nat) (w : World) (x : Eqn) : Prop := TyV B w x.1.2.2.2 (slv x.1.2.2.1) ∧ TyV B w x.2.1.2.2.2 (slv x.2.1.2.2.1)
/-- A slice value that reads as these equations, below block B. -/
def EqV (B : Nat) (w : World) (l : List Eqn) (v : Value) : Prop :=
  ∃ A c, v = .slice A l.length c ∧ (0 < l.length → ∃ b off, A = some ⟨b, off, none⟩ ∧ b < B ∧ l.length ≤ c ∧ c ≤ maxLen ∧ ∀ i (h : i < l.length), EqAt w b (off + i * 8) l[i]) ∧ ∀ x ∈ l, EqT B w x
/-- Each number is one that an int may be. -/
def TyW (t : Ty1) : Prop := (Lit.int .i64 t.2.1).wf = true ∧ t.2.2.2.wf
def EqW (l : List Eqn) : Prop := ∀ x ∈ l, TyW x.1 ∧ TyW x.2.1
theorem EqAt.keep {w w' : World} {b off : Nat} {x : Eqn} (h : EqAt w b off x) (hk : ∀ off, w'.cell? ⟨b, off, none⟩ = w.cell? ⟨b, off, none⟩) : EqAt w' b off x := by
  obtain ⟨h0, h1, h2, h3, h4, h5, h6, h7⟩ := h
  exact ⟨(hk _).trans h0, (hk _).trans h1, (hk _).trans h2, (hk _).trans h3, (hk _).trans h4, (hk _).trans h5, (hk _).trans h6, (hk _).trans h7⟩
theorem EqT.keep {B B' : Nat} {w w' : World} {x : Eqn} (h : EqT B w x) (hB : B ≤ B') (hk : ∀ b off, b < B → w'.cell? ⟨b, off, none⟩ = w.cell? ⟨b, off, none⟩) : EqT B' w' x := ⟨h.1.keep hB hk, h.2.keep hB hk⟩
theorem EqV.keep {B B' : Nat} {w w' : World} {l : List Eqn} {v : Value} (h : EqV B w l v) (hB : B ≤ B') (hk : ∀ b off, b < B → w'.cell? ⟨b, off, none⟩ = w.cell? ⟨b, off, none⟩) : EqV B' w' l v := by
  obtain ⟨A, c, hv, h1, h2⟩ := h
  refine ⟨A, c, hv, fun hn => ?_, fun x hx => (h2 x hx).keep hB hk⟩
  obtain ⟨b, off, hA, hb, hc, hm, hat⟩ := h1 hn
  exact ⟨b, off, hA, by omega, hc, hm, fun i hi => (hat i hi).keep fun o => hk b o hb⟩
theorem EqV.below {B : Nat} {w w' : World} {l : List Eqn} {v : Value} (h : EqV B w l v) (hb : Below B w w') : EqV B w' l v := h.keep (Nat.le_refl _) fun b off hlt => hb.cell (p := ⟨b, off, none⟩) hlt
theorem EqV.later {w w' : World} {l : List Eqn} {v : Value} (h : EqV w.heap.size w l v) (hb : Below w.heap.size w w') : EqV w'.heap.size w' l v := h.keep hb.size fun b off hlt => hb.cell (p := ⟨b, off, none⟩) hlt
theorem EqV.form {B : Nat} {w : World} {l : List Eqn} {v : Value} (h : EqV B w l v) : ∃ A c, v = .slice A l.length c := by obtain ⟨A, c, hv, _⟩ := h; exact ⟨A, c, hv⟩
theorem EqV.at {B : Nat} {w : World} {l : List Eqn} {A : Option Addr} {n c : Nat} (h : EqV B w l (.slice A n c)) (j : Nat) (hj : j < l.length) : ∃ b off, A = some ⟨b, off, none⟩ ∧ b < B ∧ EqAt w b (off + j * 8) l[j] := by
  obtain ⟨A', c', hv, h1, _⟩ := h
  injection hv with e1 e2 e3
  obtain ⟨b, off, hA, hb, _, _, hat⟩ := h1 (by omega)
  exact ⟨b, off, by rw [e1, hA], hb, hat j hj⟩
theorem EqV.ty {B : Nat} {w : World} {l : List Eqn} {v : Value} (h : EqV B w l v) (j : Nat) (hj : j < l.length) : EqT B w l[j] := by
  obtain ⟨_, _, _, _, h2⟩ := h
  exact h2 _ (List.getElem_mem hj)
theorem ty_read {H : Type} {enc : TypeId × Value → H} {W : World} {fuel : Nat} {c1 c2 c3 : Value} {x : DataW H × List MemPlace} (h : DataW.trod enc Tryz.prog W 0 (fun _ => true) true fuel 30 [c1, c2, c3] = some x) :
    ∃ t : Ty1, c1 = .int .i64 t.1 ∧ c2 = .int .i64 t.2.1 ∧ c3 = slv t.2.2.1 ∧ TyV W.heap.size W t.2.2.2 (slv t.2.2.1) ∧ TyW t := by
  have hI : Tryz.prog.cellsOf 3 = 1 := by kernel_rfl
  have hS : Tryz.prog.cellsOf 28 = 1 := by kernel_rfl
  obtain ⟨zs, n2, hn2, _, hlen3, hzl, hfld2⟩ := DataW.trod_struct Tryz.underlying30 h
  have p0 : DataW.trod enc Tryz.prog W 0 (fun _ => true) true n2 3 (([c1, c2, c3].drop 0).take (Tryz.prog.cellsOf 3)) = zs[0]? := hfld2 0 _ rfl
  have p1 : DataW.trod enc Tryz.prog W 0 (fun _ => true) true n2 3 (([c1, c2, c3].drop 1).take (Tryz.prog.cellsOf 3)) = zs[1]? := hfld2 1 _ rfl
  have p2 : DataW.trod enc Tryz.prog W 0 (fun _ => true) true n2 28 (([c1, c2, c3].drop 2).take (Tryz.prog.cellsOf 28)) = zs[2]? := hfld2 2 _ rfl
  have hzl' : zs.length = 3 := hzl
  rw [hI, List.getElem?_eq_getElem (by omega)] at p0
  rw [hI, List.getElem?_eq_getElem (by omega)] at p1
  rw [hS, List.getElem?_eq_getElem (by omega)] at p2
  obtain ⟨k1, hk1, _, _⟩ := DataW.trod_int Tryz.underlying3 p0
  obtain ⟨k2, hk2, _, hw2⟩ := DataW.trod_int Tryz.underlying3 p1
  obtain ⟨F, u, hu, hF, hFw⟩ := types_read n2 c3 _ p2
  simp at hk1 hk2
  subst hu
  exact ⟨(k1, k2, u, F), hk1, hk2, rfl, hF, hw2, hFw⟩
theorem span_read {H : Type} {enc : TypeId × Value → H} {W : World} {fuel : Nat} {c1 c2 : Value} {x : DataW H × List MemPlace} (h : DataW.trod enc Tryz.prog W 0 (fun _ => true) true fuel 32 [c1, c2] = some x) :
    ∃ t : Int × Int, c1 = .int .i64 t.1 ∧ c2 = .int .i64 t.2 := by
  have hI : Tryz.prog.cellsOf 3 = 1 := by kernel_rfl
  obtain ⟨zs, n2, hn2, _, hlen3, hzl, hfld2⟩ := DataW.trod_struct Tryz.underlying32 h
  have p0 : DataW.trod enc Tryz.prog W 0 (fun _ => true) true n2 3 (([c1, c2].drop 0).take (Tryz.prog.cellsOf 3)) = zs[0]? := hfld2 0 _ rfl
  have p1 : DataW.trod enc Tryz.prog W 0 (fun _ => true) true n2 3 (([c1, c2].drop 1).take (Tryz.prog.cellsOf 3)) = zs[1]? := hfld2 1 _ rfl
  have hzl' : zs.length = 2 := hzl
  rw [hI, List.getElem?_eq_getElem (by omega)] at p0
  rw [hI, List.getElem?_eq_getElem (by omega)] at p1
  obtain ⟨k1, hk1, _, _⟩ := DataW.trod_int Tryz.underlying3 p0
  obtain ⟨k2, hk2, _, _⟩ := DataW.trod_int Tryz.underlying3 p1
  simp at hk1 hk2
  exact ⟨(k1, k2), hk1, hk2⟩
theorem eqs_read {H : Type} {enc : TypeId × Value → H} {W : World} (fuel : Nat) (v : Value) (x : DataW H × List MemPlace) (h : DataW.trod enc Tryz.prog W 0 (fun _ => true) true fuel 22 [v] = some x) : ∃ (l : List Eqn), EqV W.heap.size W l v ∧ EqW l := by
  rcases DataW.trod_slice Tryz.underlying22 h with ⟨hcs, _⟩ | ⟨a, len, cap, elems, rest, n, hfu, hcs, _, _, hl, hm, hlen, hel, _, _⟩
  · simp at hcs
    subst hcs
    exact ⟨[], ⟨none, 0, rfl, fun h => by simp at h, fun x hx => by cases hx⟩, fun x hx => by cases hx⟩
  · simp at hcs
    subst hcs
    have hC : Tryz.prog.cellsOf 34 = 8 := by kernel_rfl
    have hT : Tryz.prog.cellsOf 30 = 3 := by kernel_rfl
    have hP : Tryz.prog.cellsOf 32 = 2 := by kernel_rfl
    rw [hC] at hel
    have key : ∀ i, i < len → ∃ t : Eqn, (W.cell? (a.add (i * 8)) = some (.int .i64 t.1.1) ∧ W.cell? ((a.add (i * 8)).add 1) = some (.int .i64 t.1.2.1) ∧ W.cell? ((a.add (i * 8)).add 2) = some (slv t.1.2.2.1) ∧ W.cell? ((a.add (i * 8)).add 3) = some (.int .i64 t.2.1.1) ∧ W.cell? ((a.add (i * 8)).add 4) = some (.int .i64 t.2.1.2.1) ∧ W.cell? ((a.add (i * 8)).add 5) = some (slv t.2.1.2.2.1) ∧ W.cell? ((a.add (i * 8)).add 6) = some (.int .i64 t.2.2.1) ∧ W.cell? ((a.add (i * 8)).add 7) = some (.int .i64 t.2.2.2)) ∧ EqT W.heap.size W t ∧ TyW t.1 ∧ TyW t.2.1 := by
      intro i hil
      have he := hel i hil
      rw [List.getElem?_eq_getElem (by omega)] at he
      obtain ⟨cs', hc, ht'⟩ := Option.bind_eq_some_iff.1 he
      obtain ⟨ys, n', hn', _, hlen2, hyl, hfld⟩ := DataW.trod_struct Tryz.underlying34 ht'
      rw [hC] at hlen2
      obtain ⟨_, hcl, hat⟩ := World.cells?_some hc
      have q0 : DataW.trod enc Tryz.prog W 0 (fun _ => true) true n' 30 ((cs'.drop 0).take (Tryz.prog.cellsOf 30)) = ys[0]? := hfld 0 _ rfl
      have q1 : DataW.trod enc Tryz.prog W 0 (fun _ => true) true n' 30 ((cs'.drop 3).take (Tryz.prog.cellsOf 30)) = ys[1]? := hfld 1 _ rfl
      have q2 : DataW.trod enc Tryz.prog W 0 (fun _ => true) true n' 32 ((cs'.drop 6).take (Tryz.prog.cellsOf 32)) = ys[2]? := hfld 2 _ rfl
      have hyl' : ys.length = 3 := hyl
      rw [hT, List.getElem?_eq_getElem (by omega)] at q0
      rw [hT, List.getElem?_eq_getElem (by omega)] at q1
      rw [hP, List.getElem?_eq_getElem (by omega)] at q2
      match cs', hlen2 with
      | [c0, c1, c2, c3, c4, c5, c6, c7], _ =>
        obtain ⟨tl, a0, a1, a2, aT, aW⟩ := ty_read (c1 := c0) (c2 := c1) (c3 := c2) q0
        obtain ⟨tr, b0, b1, b2, bT, bW⟩ := ty_read (c1 := c3) (c2 := c4) (c3 := c5) q1
        obtain ⟨sp, s0, s1⟩ := span_read (c1 := c6) (c2 := c7) q2
        subst a0 a1 a2 b0 b1 b2 s0 s1
        refine ⟨(tl, tr, sp), ⟨?_, ?_, ?_, ?_, ?_, ?_, ?_, ?_⟩, ⟨aT, bT⟩, aW, bW⟩
        · have := hat 0 (by omega)
          simpa [Addr.add] using this
        · exact hat 1 (by omega)
        · exact hat 2 (by omega)
        · exact hat 3 (by omega)
        · exact hat 4 (by omega)
        · exact hat 5 (by omega)
        · exact hat 6 (by omega)
        · exact hat 7 (by omega)
    by_cases h0 : len = 0
    · subst h0
      exact ⟨[], ⟨_, _, rfl, fun h => by simp at h, fun x hx => by cases hx⟩, fun x hx => by cases hx⟩
    · obtain ⟨b, off, spot⟩ := a
      obtain ⟨t0, ⟨hc0, _⟩, _⟩ := key 0 (by omega)
      have hspot : spot = none := by simpa [Addr.add] using World.cell?_spot hc0
      subst hspot
      have hb : b < W.heap.size := by simpa [Addr.add] using World.block_lt_of_cell? _ _ hc0
      obtain ⟨ts, htl, hP⟩ := listOf _ len key
      subst htl
      simp only [Addr.add_lit] at hP
      refine ⟨ts, ⟨_, _, rfl, fun _ => ⟨b, off, rfl, hb, hl, hm, fun i hi => (hP i hi).1⟩, fun x hx => ?_⟩, fun x hx => ?_⟩
      · obtain ⟨i, hi, rfl⟩ := List.mem_iff_getElem.1 hx
        exact (hP i hi).2.1
      · obtain ⟨i, hi, rfl⟩ := List.mem_iff_getElem.1 hx
        exact (hP i hi).2.2
def ArgE (W : World) (v : Value) (l : List Eqn) : Prop := EqV W.heap.size W l v ∧ EqW l
theorem ArgE_open {H : Type} {enc : TypeId × Value → H} {W : World} {r : Reach} {b0 : Nat} {v : Value} {d : DataW H} {p : List MemPlace} (hval : Value.okWide Tryz.prog W r b0 22 v)
    (h : DataW.Trod enc Tryz.prog W 0 (fun _ => true) true 22 v d p) : ∃ l, ArgE W v l := by
  obtain ⟨a0, len, cap, rfl⟩ := okWide_slice Tryz.underlying22 hval
  obtain ⟨fuel, hf⟩ := h
  exact eqs_read fuel _ _ hf
end Go.Proofs.YtbnpmeaaaecciaaGreat
/- unify's laws: is there room for a type? -/
namespace Go.Proofs.YtbnpmeaaaecciaaGreat
open Go.RowKit

set_option maxHeartbeats 1000000 in
set_option maxRecDepth 100000 in
theorem room12 (deep : Nat) : ∀ (f : Fo) (k n0 : Int) (v : Value) (n : Nat) (w : World), deep ≤ 40 → n ≤ 300 → TyV w.heap.size w f v →
    Calls Tryz.prog 46 #[tyVal k n0 v, .int .i64 n, .int .i64 deep] w fun e w' => ∃ r, e = .returned (.int .i64 r) ∧ Below w.heap.size w w' ∧ RoomIs n deep f r := by
  induction deep with
  | zero =>
    intro f k n0 v n w hd hn h
    obtain ⟨A, c, rfl⟩ := h.slice
    clear h
    unfold tyVal
    go_enter Tryz.func46, Tryz.ntmps46
    go_wp2_with fail
    go_ret
    exact ⟨_, rfl, (Below.refl _ _).alloc (Nat.le_refl _) _, RoomIs.zero n f⟩
  | succ deep ih =>
    intro f k n0 v n w hd hn h
    obtain ⟨A, c, rfl⟩ := h.slice
    have H := Lib.hid h
    have IH := Lib.hid ih
    have hml : f.len ≤ maxLen := by
      rcases Nat.eq_zero_or_pos f.len with h0 | h0
      · omega
      · obtain ⟨_, _, cap, _, h1, h2, _⟩ := h.form h0
        exact Nat.le_trans h1 h2
    replace hml : f.len ≤ 9223372036854775807 := by unfold maxLen at hml; omega
    clear h ih
    rw [show (((deep + 1 : Nat)) : Int) = (deep : Int) + 1 from by omega]
    unfold tyVal
    go_enter Tryz.func46, Tryz.ntmps46
    have HB0 := Lib.hid (show ∀ (cs : Array Value) (t : TypeId), Below w.heap.size w (w.alloc (Obj.cells cs t)) from fun cs t => (Below.refl _ w).alloc (Nat.le_refl _) _)
    have f1 : ((deep : Int) + 1 == 0) = false := beq_eq_false_iff_ne.2 (by omega)
    go_wp2_with fail
    go_loopw [1, 7] (fun t1 t7 wr => ∃ (j : Nat) (r : Int), j ≤ f.len ∧ t7 = .int .i64 j ∧ t1 = .int .i64 r ∧ RoomIs n (deep + 1) (f.take j) r ∧ wr.cell? ⟨w.heap.size, 2, none⟩ = some (.slice A f.len c) ∧ Below w.heap.size w wr ∧ w.heap.size + 1 ≤ wr.heap.size) (fun _ t _ => f.len - (intOf t).toNat)
    case atStart =>
      refine ⟨0, (n : Int) - 1, Nat.zero_le _, rfl, by go_num, ?_, by go_simp, HB0.out _ _, by simp⟩
      unfold RoomIs
      simp only [Fo.take_zero, Fo.size, Fo.depth]
      omega
    case round =>
      obtain ⟨j, r, hj, rfl, rfl, hr, e2, hb, hz⟩ := hrel
      have HB := Lib.hid hb
      have HR := Lib.hid hr
      have hr0 : -1 ≤ r ∧ r ≤ n := ⟨hr.1, hr.2.1⟩
      clear hb hr
      by_cases hjl : j < f.len
      · by_cases hr1 : 0 ≤ r
        · obtain ⟨rn, rfl⟩ := Int.eq_ofNat_of_zero_le hr1
          obtain ⟨b, off, cap, hv, _, _, hlt, hC⟩ := H.out.form (by omega)
          injection hv with hA _ hcc
          subst hA; subst hcc
          obtain ⟨d0, d1, d2, hch⟩ := tyC_at hC j hjl
          have c0 := (HB.out.cell (p := ⟨b, off + j * 3, none⟩) hlt).trans d0
          have c1 := (HB.out.cell (p := ⟨b, off + j * 3 + 1, none⟩) hlt).trans d1
          have c2 := (HB.out.cell (p := ⟨b, off + j * 3 + 2, none⟩) hlt).trans d2
          have hch' : TyV wr.heap.size wr (f.at_ j).2.2.2 (slv (f.at_ j).2.2.1) := hch.keep HB.out.size fun b off hb' => HB.out.cell (p := ⟨b, off, none⟩) hb'
          have HST := Lib.hid (f.size_take_step j hjl)
          have HDT := Lib.hid (f.depth_take_step j hjl)
          have hrec := IH.out (f.at_ j).2.2.2 (f.at_ j).1 (f.at_ j).2.1 (slv (f.at_ j).2.2.1) rn wr (by omega) (by omega) hch'
          clear d0 d1 d2 hC hch hch'
          unfold tyVal at hrec
          generalize f.at_ j = p at *
          obtain ⟨pk, pn, pv, pf⟩ := p
          dsimp only [slv] at hrec c0 c1 c2
          have HREC := Lib.hid hrec
          clear hrec
          have f2 : decide ((0 : Int) ≤ rn) = true := decide_eq_true hr1
          go_wp2_with fail
          refine HREC.out.mono ?_
          rintro e w2 ⟨r2, rfl, hb3, hr2⟩
          have e2' := (hb3.cell (p := ⟨w.heap.size, 2, none⟩) (by show w.heap.size < wr.heap.size; omega)).trans e2
          have HB3 := Lib.hid hb3
          have HR2 := Lib.hid hr2
          clear hb3 hr2
          go_wp2_with fail
          go_roundw
          case rel =>
            refine ⟨j + 1, r2, by omega, by go_num, rfl, ?_, e2', HB.out.trans (HB3.out.mono (by omega)), Nat.le_trans hz HB3.out.size⟩
            have h1 := HR.out
            have h2 := HR2.out
            have h3 := HST.out
            have h4 := HDT.out
            unfold RoomIs at h1 h2 ⊢
            omega
          case measure => simp [intOf]; omega
        · have f2 : decide ((0 : Int) ≤ r) = false := decide_eq_false hr1
          have HTL := Lib.hid (f.size_take_le j)
          have HDL := Lib.hid (f.depth_take_le j)
          go_wp2_with fail
          go_ret
          refine ⟨_, rfl, HB.out, ?_⟩
          have h1 := HR.out
          have h3 := HTL.out
          have h4 := HDL.out
          unfold RoomIs at h1 ⊢
          omega
      · obtain rfl : j = f.len := by omega
        have HT : Hid (f.take f.len = f) := Lib.hid f.take_len
        go_wp2_with fail
        go_ret
        refine ⟨_, rfl, HB.out, ?_⟩
        have h1 := HR.out
        rwa [HT.out] at h1
set_option maxHeartbeats 1000000 in
/-- Is there more than is asked of? -/
theorem big12 (f : Fo) (k n0 : Int) (v : Value) (w : World) (h : TyV w.heap.size w f v) :
    Calls Tryz.prog 26 #[tyVal k n0 v] w fun e w' => e = .returned (.bool (!(decide (1 + f.size ≤ 100) && decide (1 + f.depth ≤ 30)))) ∧ Below w.heap.size w w' := by
  obtain ⟨A, c, rfl⟩ := h.slice
  obtain ⟨w1, hw1⟩ : ∃ w1, w.alloc (Obj.cells #[.int .i64 k, .int .i64 n0, .slice A f.len c] 30) = w1 := ⟨_, rfl⟩
  have hb1 : Below w.heap.size w w1 := by rw [← hw1]; exact (Below.refl _ _).alloc (Nat.le_refl _) _
  have hs1 := hb1.size
  have hc := room12 30 f k n0 (.slice A f.len c) 100 w1 (by omega) (by omega) (h.keep hs1 fun b off hb' => hb1.cell (p := ⟨b, off, none⟩) hb')
  rw [← hw1] at hc
  have HC := Lib.hid hc
  have HB1 := Lib.hid hb1
  have HW1 := Lib.hid hw1
  clear h hc hs1 hb1 hw1
  unfold tyVal at HC ⊢
  go_enter Tryz.func26, Tryz.ntmps26
  go_wp2_with fail
  refine HC.out.mono ?_
  rintro e w' ⟨r, rfl, hb, hr⟩
  have hd : decide (r < 0) = !(decide (1 + f.size ≤ 100) && decide (1 + f.depth ≤ 30)) := by
    unfold RoomIs at hr
    by_cases h1 : r < 0
    · have : ¬ (1 + f.size ≤ 100 ∧ 1 + f.depth ≤ 30) := by omega
      rw [decide_eq_true h1]
      simp only [← Bool.decide_and, decide_eq_false this]
      rfl
    · have : 1 + f.size ≤ 100 ∧ 1 + f.depth ≤ 30 := by omega
      rw [decide_eq_false h1]
      simp only [← Bool.decide_and, decide_eq_true this]
      rfl
  have HD := Lib.hid hd
  rw [HW1.out] at hb
  have HB := Lib.hid (show Below w.heap.size w w' from HB1.out.trans (hb.mono HB1.out.size))
  clear hd hr hb
  go_wp2_with fail
  go_ret
  exact ⟨ret_bool HD.out, HB.out⟩
end Go.Proofs.YtbnpmeaaaecciaaGreat
