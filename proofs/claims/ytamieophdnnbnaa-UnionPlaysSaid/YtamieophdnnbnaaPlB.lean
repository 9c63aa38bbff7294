/- UnionPlays: the walk. -/
import Derived.Test.YtamieophdnnbnaaPlC
import Derived.StillTailTactics
import Derived.Deep.QuietTactic
import Derived.BigQuiet
import Derived.Deep.CutBlock
import Derived.Deep.DeepCutAuto
namespace Go.Proofs.Ytamieophdnnbnaa.Un
open Go.RowKit
attribute [local go_sem] Oper.semAt_some
attribute [local go_sem ↓] builtin_app

def PRel (w : World) (b : Nat) (L : List (Nat × Int × Int)) (v Kv wasv iv : Value) (wr : World) : Prop :=
  ∃ (i n : Nat) (c ro : Nat → Nat) (S : Nat → Prop) (st K : Int), iv = .int .i64 (i : Int) ∧ i ≤ L.length ∧ Kv = .int .i64 K ∧ wasv = .int .i64 st ∧ P5 S w b n c ro st n c v wr ∧ Okst st K n ∧ n ≤ 20 + i ∧ K ≤ 1 + i * 200 ∧ ∀ k, k < n → c k < n + 1000
def MidP (w : World) (b i : Nat) (st0 : Int) (v Kv : Value) (wx : World) : Prop :=
  ∃ (n : Nat) (c ro : Nat → Nat) (S : Nat → Prop) (st K : Int), Kv = .int .i64 K ∧ P5 S w b n c ro st n c v wx ∧ Okst st K n ∧ st0 ≤ st ∧ n ≤ 21 + i ∧ K ≤ 201 + i * 200 ∧ ∀ k, k < n → c k < n + 1000
theorem paint_lt {n : Nat} {c : Nat → Nat} {x y : Nat} (h : ∀ k, k < n → c k < n + 1000) (hx : x < n) : ∀ k, k < n → paint c x y k < n + 1000 := by
  intro k hk
  unfold paint
  split
  · exact h x hx
  · exact h k hk
theorem paint_at {c : Nat → Nat} {r x y : Nat} (h : c r = c x ∨ c r = c y) : (paint c x y r == paint c x y x) = true := by
  have e : ∀ k, (c k = c x ∨ c k = c y) → paint c x y k = c x := by
    intro k hk
    unfold paint
    split
    · rfl
    · rcases hk with hk | hk
      · exact hk
      · contradiction
  rw [e r h, e x (.inl rfl)]
  simp
theorem not_in {n : Nat} {A B : Int} (h : ¬ ((0 ≤ A ∧ A < n) ∧ (0 ≤ B ∧ B < n))) (hA : 0 ≤ A ∧ A < n) : ¬ (0 ≤ B ∧ B < n) := fun hB => h ⟨hA, hB⟩
set_option maxRecDepth 100000 in
set_option maxHeartbeats 8000000 in
theorem plays_any (w : World) (n0 : Nat) (_hn0 : n0 < 256) (vl : Value) (L : List (Nat × Int × Int)) (hl : RdO w vl L) :
    Calls Try.prog 3 #[.int .u8 (n0 : Nat), vl] w fun e w' => e = .returned (.bool true) ∧ Below w.heap.size w w' := by
  obtain ⟨Al, cl, rfl⟩ := hl.slice
  have HL := Lib.hid hl
  clear hl
  by_cases h1 : 80 < L.length
  · have f1 : decide ((80 : Int) < (L.length : Nat)) = true := decide_eq_true (by omega)
    have HW := awake_any w
    go_enter Try.func3, Try.ntmps3
    go_wp2_with fail
    refine HW.mono ?_
    rintro e w1 ⟨rfl, hB⟩
    have HB := Lib.hid hB
    clear hB HW
    go_wp2_with fail
    go_ret
    exact ⟨rfl, HB.out⟩
  have f1 : decide ((80 : Int) < (L.length : Nat)) = false := decide_eq_false (by omega)
  obtain ⟨a, ha⟩ : ∃ a, n0 % 20 = a := ⟨_, rfl⟩
  have ha20 : a < 20 := by omega
  have f3 : (n0 : Int).tmod 20 = (a : Int) := by rw [← ha]; rfl
  have hL80 : L.length ≤ 80 := by omega
  have HN := new_in w a (by omega)
  go_enter Try.func3, Try.ntmps3
  go_wp2_with fail
  refine HN.mono ?_
  rintro e w1 ⟨rfl, hU1, hB1⟩
  have HN2 := rnew_any w1 a (by omega)
  have H1 := Lib.hid (And.intro hU1 hB1)
  clear hU1 hB1 HN
  go_wp2_with fail
  refine HN2.mono ?_
  rintro e w2 ⟨sv, rfl, hs, hb2⟩
  have hP : P5 (fun k => w.heap.size ≤ k ∧ k < w1.heap.size) w w.heap.size a (fun j => j) (fun j => j) 0 a (fun j => j) sv w2 :=
    ⟨H1.out.1.below hb2, fun k hk => ⟨hk.1, Nat.lt_of_lt_of_le hk.2 hb2.size⟩, row_zero hs, fun k hk hx => by have := (hs.lt k hk).1; omega, H1.out.2.trans (hb2.mono H1.out.2.size)⟩
  have HP := Lib.hid hP
  clear hP hs hb2 HN2 H1 ha f3
  go_wp2_with fail
  go_loopw [7, 8, 9, 10, 11, 12, 13, 14, 15, 16, 17] (fun v K was i _ _ _ _ _ _ _ wr => PRel w w.heap.size L v K was i wr) (fun _ _ _ i _ _ _ _ _ _ _ _ => ((L.length : Int) - intAt i).toNat)
  case atStart => exact ⟨0, a, _, _, _, 0, 1, rfl, by omega, rfl, rfl, HP.out, ⟨by omega, by omega, by omega⟩, by omega, by omega, fun k hk => by omega⟩
  case round =>
    obtain ⟨i, n, c, ro, S, st, K, rfl, hi, rfl, rfl, hP, hok, hn, hK, hfr⟩ := hrel
    obtain ⟨As, cs, rfl⟩ := row_form hP.r
    by_cases hin : i < L.length
    · have g1 : decide ((i : Int) < (L.length : Nat)) = true := decide_eq_true (by omega)
      have hbl := hP.bel
      obtain ⟨bl, off, rfl, hb0, c0, c1, c2⟩ := (HL.out.below hbl).at_ hin
      obtain ⟨⟨kd, A, B⟩, hp⟩ : ∃ p, L[i] = p := ⟨_, rfl⟩
      rw [hp] at c0 c1 c2
      dsimp only at c0 c1 c2
      have HH := Lib.hid (And.intro hP (And.intro hok hfr))
      clear hP hok hfr hbl hp
      go_upto_block 2 with fail
      have hQ0 : Q6 wr.heap.size kd A B S w w.heap.size n c ro st c (.slice As n cs) (wr.alloc (Obj.cells #[.int .u8 (kd : Nat), .int .i64 A, .int .i64 B] 32)) :=
        ⟨HH.out.1.below ((Below.refl _ _).alloc (Nat.le_refl _) _), heap_alloc_new wr _, fun hk => Nat.lt_irrefl _ (HH.out.1.s _ hk).2⟩
      have HOK := Lib.hid HH.out.2
      obtain ⟨h, hh⟩ : ∃ h, wr.heap.size = h := ⟨_, rfl⟩
      rw [hh] at hQ0
      rw [hh]
      refine wp_world (fun V => Q6 h kd A B S w w.heap.size n c ro st c (.slice As n cs) V) hQ0 ?_
      clear hQ0 hh c0 c1 c2 hb0 HH HP
      rintro V hQ
      have hst : 0 ≤ st ∧ st ≤ 100000000 := ⟨HOK.out.1.1, HOK.out.1.le (by omega) (by omega)⟩
      have hK1 : 1 ≤ K := HOK.out.1.2.1
      go_cut [7, 8, 12, 13, 14, 15, 16, 17] (fun v K _ _ _ _ _ _ wx => MidP w w.heap.size i st v K wx)
      case first =>
        by_cases k0 : kd = 0
        · have e0 : (((kd : Nat) : Int) == 0) = true := by rw [k0]; rfl
          have HA := hQ.1.add (by omega) (n + 1000) (fun k hk => by have := HOK.out.2 k hk; omega)
          clear k0 hQ
          as_aux_lemma =>
            go_wp2_with fail
            refine HA.mono ?_
            rintro e w5 ⟨rfl, S', hP5⟩
            obtain ⟨A1, cp1, w6, hrun1, ho1, hb1⟩ := app_row w5 0 (.slice As n cs) n c hP5.r (by omega)
            obtain ⟨g2, cp2, w7, hrun2, ho2, hb2⟩ := app_int2 29 Try.underlying29 w5.heap.size w6 hb1.size _ n _ ho1 ((n : Int) + 1000) (by omega)
            have hP7 := hP5.row (m' := n + 1) (d' := upd c n (n + 1000)) (hb1.trans hb2) (by rw [rowI_upd]; exact ho2)
            have H7 := Lib.hid hP7
            clear hP5 hP7 ho1 hb1 ho2 hb2 HA
            go_wp2_with fail
            go_meet
            case rel =>
              refine ⟨n + 1, _, _, _, st, K, rfl, H7.out, HOK.out.1.grow, by omega, by omega, by omega, ?_⟩
              intro k hk
              by_cases hkn : k = n
              · subst hkn; rw [upd_same]; omega
              · rw [upd_other _ _ hkn]
                have := HOK.out.2 k (by omega)
                omega
        have e0 : (((kd : Nat) : Int) == 0) = false := by simp; omega
        by_cases k1 : kd = 1
        · have e1 : (((kd : Nat) : Int) == 1) = true := by rw [k1]; rfl
          clear k1 k0
          as_aux_lemma =>
            by_cases hAB : (0 ≤ A ∧ A < n) ∧ (0 ≤ B ∧ B < n)
            · obtain ⟨x, rfl⟩ : ∃ x : Nat, A = (x : Int) := ⟨A.toNat, by omega⟩
              obtain ⟨y, rfl⟩ : ∃ y : Nat, B = (y : Int) := ⟨B.toNat, by omega⟩
              have hx : x < n := by omega
              have hy : y < n := by omega
              have hdg := dg_dgs (n := n) (by omega)
              have HJ := hQ.join ⟨by omega, by omega⟩ x y hx hy
              obtain ⟨q0, q1, q2⟩ := hQ.cells
              obtain ⟨bb, hbb⟩ : ∃ b, (c x == c y) = b := ⟨_, rfl⟩
              rw [hbb] at HJ
              have fbb : ((!bb) == bb) = false := by cases bb <;> rfl
              have HBB := Lib.hid (And.intro hbb hdg)
              clear hbb hQ hAB hdg
              go_wp2_with fail
              refine HJ.mono ?_
              rintro e w5 ⟨r, k, ro', rfl, hr, hc, hk, hQ5⟩
              obtain ⟨p0, p1, p2⟩ := hQ5.cells
              have HI1 := rin_is hQ5.1.r (x : Nat) true (decide_eq_true (by omega))
              have HI2 := rin_is hQ5.1.r (y : Nat) true (decide_eq_true (by omega))
              have HS := rsame_is hQ5.1.r x y hx hy bb HBB.out.1
              have H5 := Lib.hid (And.intro hQ5 (And.intro hc hk))
              clear hQ5 hc hk HJ q0 q1 q2
              go_wp2_with fail
              refine HI1.mono ?_
              rintro e w6 ⟨rfl, rfl⟩
              go_wp2_with fail
              refine HI2.mono ?_
              rintro e w6 ⟨rfl, rfl⟩
              clear HI1 HI2
              go_wp2_with fail
              refine HS.mono ?_
              rintro e w6 ⟨rfl, q, rfl⟩
              have hQ6 := H5.out.1.below (Below.drews _ q)
              have HRJ := rjoin_in hQ6.1.r x y hx hy (by omega)
              obtain ⟨_, r1, r2⟩ := hQ6.cells
              have H6 := Lib.hid hQ6
              clear hQ6 HS p0 p1 p2
              go_wp2_with fail
              refine HRJ.mono ?_
              rintro e w7 ⟨sv7, rfl, ho7, hb7⟩
              have hQ7 := H6.out.row hb7 ho7
              obtain ⟨A7, c7, rfl⟩ := row_form ho7
              have HS2 := rsame_is hQ7.1.r r x hr hx true (paint_at H5.out.2.1)
              obtain ⟨_, s1, s2⟩ := hQ7.cells
              have H7 := Lib.hid hQ7
              clear hQ7 ho7 hb7 HRJ r1 r2
              go_wp2_with fail
              refine HS2.mono ?_
              rintro e w8 ⟨rfl, q8, rfl⟩
              have H8 := Lib.hid (H7.out.below (Below.drews _ q8))
              clear HS2 s1 s2
              go_wp2_with fail
              go_meet
              case rel =>
                have hk := H5.out.2.2
                have hdg := HBB.out.2
                exact ⟨n, paint c x y, ro', S, st + k, K + 1, by go_num, H8.out.1, HOK.out.1.one k (by omega), by omega, by omega, by omega, paint_lt HOK.out.2 hx⟩
            · have HJ := join_out hQ.1.f A B hAB
              obtain ⟨q0, q1, q2⟩ := hQ.cells
              by_cases hA : 0 ≤ A ∧ A < n
              · have HI1 := rin_is hQ.1.r A true (decide_eq_true hA)
                have HI2 := rin_is hQ.1.r B false (decide_eq_false (not_in hAB hA))
                have HQ := Lib.hid hQ
                clear hQ hAB hA
                go_wp2_with fail
                refine HJ.mono ?_
                rintro e w5 ⟨rfl, rfl⟩
                go_wp2_with fail
                refine HI1.mono ?_
                rintro e w6 ⟨rfl, rfl⟩
                go_wp2_with fail
                refine HI2.mono ?_
                rintro e w6 ⟨rfl, rfl⟩
                go_wp2_with fail
                go_roundw
                case rel => exact ⟨i + 1, n, c, ro, S, st, K + 1, by go_num, by omega, by go_num, rfl, HQ.out.1, HOK.out.1.by_ 1, by omega, by omega, HOK.out.2⟩
                case measure =>
                  simp only [intAt]
                  omega
              · have HI1 := rin_is hQ.1.r A false (decide_eq_false hA)
                have HQ := Lib.hid hQ
                clear hQ hAB hA
                go_wp2_with fail
                refine HJ.mono ?_
                rintro e w5 ⟨rfl, rfl⟩
                go_wp2_with fail
                refine HI1.mono ?_
                rintro e w6 ⟨rfl, rfl⟩
                go_wp2_with fail
                go_roundw
                case rel => exact ⟨i + 1, n, c, ro, S, st, K + 1, by go_num, by omega, by go_num, rfl, HQ.out.1, HOK.out.1.by_ 1, by omega, by omega, HOK.out.2⟩
                case measure =>
                  simp only [intAt]
                  omega
        have e1 : (((kd : Nat) : Int) == 1) = false := by simp; omega
        obtain ⟨q0, q1, q2⟩ := hQ.cells
        by_cases k2 : kd = 2
        · have e2 : (((kd : Nat) : Int) == 2) = true := by rw [k2]; rfl
          clear k2 k1 k0
          as_aux_lemma =>
            by_cases hA : 0 ≤ A ∧ A < n
            · obtain ⟨x, rfl⟩ : ∃ x : Nat, A = (x : Int) := ⟨A.toNat, by omega⟩
              have hx : x < n := by omega
              have hdg := Lib.hid (dg_dgs (n := n) (by omega))
              have HR1 := hQ.root ⟨by omega, by omega⟩ x hx
              obtain ⟨rx, hrx⟩ : ∃ r, ro x = r := ⟨_, rfl⟩
              have hrr := hQ.roots hx
              rw [hrx] at HR1 hrr
              have HRR := Lib.hid (And.intro hrx hrr)
              clear hrx hrr
              by_cases hB : 0 ≤ B ∧ B < n
              · obtain ⟨y, rfl⟩ : ∃ y : Nat, B = (y : Int) := ⟨B.toNat, by omega⟩
                have hy : y < n := by omega
                obtain ⟨ry, hry⟩ : ∃ r, ro y = r := ⟨_, rfl⟩
                obtain ⟨bb, hbb⟩ : ∃ b, (c x == c y) = b := ⟨_, rfl⟩
                have hre := hQ.root_eq hx hy
                rw [HRR.out.1, hry, hbb] at hre
                have fre : (((rx : Nat) : Int) == ((ry : Nat) : Int)) = bb := by
                  rw [← hre, Bool.eq_iff_iff, beq_iff_eq, beq_iff_eq]; omega
                have fbb : (bb != bb) = false := by simp
                have HBB := Lib.hid (And.intro hbb hry)
                clear hre hbb hry hA hB hQ
                go_wp2_with fail
                refine HR1.mono ?_
                rintro e w5 ⟨k, rfl, hk, hQ5⟩
                have HR2 := hQ5.root ⟨by omega, by have := dg_le (n := n) (by omega); omega⟩ y hy
                rw [HBB.out.2] at HR2
                obtain ⟨_, p1, p2⟩ := hQ5.cells
                have H5 := Lib.hid hk
                clear hQ5 hk HR1 q0 q1 q2
                go_wp2_with fail
                refine HR2.mono ?_
                rintro e w6 ⟨k', rfl, hk', hQ6⟩
                obtain ⟨_, r1, r2⟩ := hQ6.cells
                have HI1 := rin_is hQ6.1.r (x : Nat) true (decide_eq_true (by omega))
                have HI2 := rin_is hQ6.1.r (y : Nat) true (decide_eq_true (by omega))
                have HS1 := rsame_is hQ6.1.r rx x HRR.out.2.1 hx true (by rw [HRR.out.2.2]; simp)
                have H6 := Lib.hid (And.intro hQ6 hk')
                clear hQ6 hk' HR2 p1 p2
                go_wp2_with fail
                refine HI1.mono ?_
                rintro e w7 ⟨rfl, rfl⟩
                go_wp2_with fail
                refine HI2.mono ?_
                rintro e w7 ⟨rfl, rfl⟩
                clear HI1 HI2
                go_wp2_with fail
                refine HS1.mono ?_
                rintro e w7 ⟨rfl, q, rfl⟩
                have hQ7 := H6.out.1.below (Below.drews _ q)
                have HS2 := rsame_is hQ7.1.r x y hx hy bb HBB.out.1
                obtain ⟨_, s1, s2⟩ := hQ7.cells
                have H7 := Lib.hid hQ7
                clear hQ7 HS1 r1 r2
                go_wp2_with fail
                refine HS2.mono ?_
                rintro e w8 ⟨rfl, q8, rfl⟩
                have H8 := Lib.hid (H6.out.1.below (Below.drews _ (q + q8)))
                clear HS2 s1 s2
                go_wp2_with fail
                go_meet
                case rel =>
                  have hk := H5.out
                  have hk' := H6.out.2
                  have hdg := hdg.out
                  have hok := HOK.out.1.two (k + k') (by omega)
                  rw [show st + ((k + k' : Nat) : Int) = st + k + k' by omega] at hok
                  exact ⟨n, c, ro, S, st + k + k', K + 2, by go_num, H8.out.1, hok, by omega, by omega, by omega, HOK.out.2⟩
              · have HQ := Lib.hid hQ
                clear hA hQ
                go_wp2_with fail
                refine HR1.mono ?_
                rintro e w5 ⟨k, rfl, hk, hQ5⟩
                have HR2 := root_out hQ5.1.f B hB
                obtain ⟨_, p1, p2⟩ := hQ5.cells
                have HI1 := rin_is hQ5.1.r (x : Nat) true (decide_eq_true (by omega))
                have HI2 := rin_is hQ5.1.r B false (decide_eq_false hB)
                have HS1 := rsame_is hQ5.1.r rx x HRR.out.2.1 hx true (by rw [HRR.out.2.2]; simp)
                have H5 := Lib.hid (And.intro hQ5 hk)
                clear hQ5 hk HR1 q0 q1 q2 hB
                go_wp2_with fail
                refine HR2.mono ?_
                rintro e w6 ⟨rfl, rfl⟩
                go_wp2_with fail
                refine HI1.mono ?_
                rintro e w7 ⟨rfl, rfl⟩
                go_wp2_with fail
                refine HI2.mono ?_
                rintro e w7 ⟨rfl, rfl⟩
                clear HI1 HI2
                go_wp2_with fail
                refine HS1.mono ?_
                rintro e w7 ⟨rfl, q, rfl⟩
                have H7 := Lib.hid (H5.out.1.below (Below.drews _ q))
                clear HS1
                go_wp2_with fail
                go_meet
                case rel =>
                  have hk := H5.out.2
                  have hdg := hdg.out
                  exact ⟨n, c, ro, S, st + k, K + 2, by go_num, H7.out.1, HOK.out.1.two k (by omega), by omega, by omega, by omega, HOK.out.2⟩
            · have HR1 := root_out hQ.1.f A hA
              have HI1 := rin_is hQ.1.r A false (decide_eq_false hA)
              by_cases hB : 0 ≤ B ∧ B < n
              · obtain ⟨y, rfl⟩ : ∃ y : Nat, B = (y : Int) := ⟨B.toNat, by omega⟩
                have hy : y < n := by omega
                have hdg := Lib.hid (dg_dgs (n := n) (by omega))
                have HR2 := hQ.root ⟨by omega, by omega⟩ y hy
                obtain ⟨ry, hry⟩ : ∃ r, ro y = r := ⟨_, rfl⟩
                rw [hry] at HR2
                have HRY := Lib.hid (And.intro hry (show decide (0 ≤ A ∧ A < (n : Int)) = false from decide_eq_false hA))
                clear hry hA hB hQ HI1
                go_wp2_with fail
                refine HR1.mono ?_
                rintro e w5 ⟨rfl, rfl⟩
                go_wp2_with fail
                refine HR2.mono ?_
                rintro e w6 ⟨k, rfl, hk, hQ6⟩
                have HI1 := rin_is hQ6.1.r A false HRY.out.2
                have HI2 := rin_is hQ6.1.r (y : Nat) true (decide_eq_true (by omega))
                obtain ⟨_, r1, r2⟩ := hQ6.cells
                have H6 := Lib.hid (And.intro hQ6 hk)
                clear hQ6 hk HR2 q0 q1 q2
                go_wp2_with fail
                refine HI1.mono ?_
                rintro e w7 ⟨rfl, rfl⟩
                go_wp2_with fail
                refine HI2.mono ?_
                rintro e w7 ⟨rfl, rfl⟩
                clear HI1 HI2
                go_wp2_with fail
                go_meet
                case rel =>
                  have hk := H6.out.2
                  have hdg := hdg.out
                  exact ⟨n, c, ro, S, st + k, K + 2, by go_num, H6.out.1.1, HOK.out.1.two k (by omega), by omega, by omega, by omega, HOK.out.2⟩
              · have HR2 := root_out hQ.1.f B hB
                have HI2 := rin_is hQ.1.r B false (decide_eq_false hB)
                have HQ := Lib.hid hQ
                clear hQ hA hB
                go_wp2_with fail
                refine HR1.mono ?_
                rintro e w5 ⟨rfl, rfl⟩
                go_wp2_with fail
                refine HR2.mono ?_
                rintro e w6 ⟨rfl, rfl⟩
                go_wp2_with fail
                refine HI1.mono ?_
                rintro e w7 ⟨rfl, rfl⟩
                go_wp2_with fail
                refine HI2.mono ?_
                rintro e w7 ⟨rfl, rfl⟩
                go_wp2_with fail
                go_meet
                case rel => exact ⟨n, c, ro, S, st, K + 2, by go_num, HQ.out.1, HOK.out.1.by_ 2, by omega, by omega, by omega, HOK.out.2⟩
        have e2 : (((kd : Nat) : Int) == 2) = false := by simp; omega
        by_cases k3 : kd = 3
        · have e3 : (((kd : Nat) : Int) == 3) = true := by rw [k3]; rfl
          clear k3 k2 k1 k0
          as_aux_lemma =>
            by_cases hA : 0 ≤ A ∧ A < n
            · obtain ⟨x, rfl⟩ : ∃ x : Nat, A = (x : Int) := ⟨A.toNat, by omega⟩
              have hx : x < n := by omega
              have HF := (hQ.below (Below.refl _ _).drew).set ⟨by omega, by omega⟩ x hx
              have hml := Nat.le_trans (mem_len n c x) (show n ≤ 1000000 by omega)
              have HML := Lib.hid hml
              clear hQ hA hml q0 q2
              go_wp2_with fail
              go_region_held3 (fun W => W.cell? ⟨h, 1, none⟩ = some (.int .i64 (x : Nat)))
                (first | exact q1 | exact p1 | exact r1 | exact s1)
                (first
                  | (go_at_call 18; refine HF.mono ?_; rintro e w5 ⟨v, k, rfl, hr, hk, hQ5⟩; have p1 := hQ5.cells.2.1)
                  | (go_at_call 19; refine (rset_in hQ5.1.r x hx (by omega)).mono ?_; rintro e w6 ⟨v', rfl, ho6, hb6⟩; have hQ6 := hQ5.below hb6; have r1 := hQ6.cells.2.1)
                  | (go_at_call 17; refine (ints_same (hr.below hb6) (Rd.of_own ho6) HML.out).mono ?_; rintro e w7 ⟨rfl, hb7⟩; have hQ7 := hQ6.below hb7; have s1 := hQ7.cells.2.1))
              have H7 := Lib.hid (And.intro hQ7 hk)
              clear hQ5 hQ6 hQ7 hr hk ho6 hb6 hb7 p1 r1 s1 HF
              go_wp2_with fail
              go_meet
              case rel =>
                have hk := H7.out.2
                exact ⟨n, c, ro, S, st + k, K + n + 1, by go_num, H7.out.1.1, HOK.out.1.set k hk, by omega, by omega, by omega, HOK.out.2⟩
            · have HF := set_out (hQ.below (Below.refl _ _).drew).1.f A hA
              have HF2 := rset_out (hQ.below (Below.refl _ _).drew).1.r A hA (by omega)
              have HQ := Lib.hid hQ
              have HNL := Lib.hid (show ∀ W : World, Rd W 1 (.slice none 0 0) ([] : List Nat).length (rowL []) from fun W => Rd.of_own (World.ownsRow_nil W 0 3 1))
              clear hQ hA q0 q2
              go_wp2_with fail
              go_region_held3 (fun W => W.cell? ⟨h, 1, none⟩ = some (.int .i64 A))
                (first | exact q1 | exact r1 | exact s1)
                (first
                  | (go_at_call 18; refine HF.mono ?_; rintro e w5 ⟨rfl, rfl⟩)
                  | (go_at_call 19; refine HF2.mono ?_; rintro e w6 ⟨rfl, hb6⟩; have hQ6 := (HQ.out.below (Below.refl _ _).drew).below hb6; have r1 := hQ6.cells.2.1)
                  | (go_at_call 17; refine (ints_same (HNL.out _) (HNL.out _) (by simp)).mono ?_; rintro e w7 ⟨rfl, hb7⟩; have hQ7 := hQ6.below hb7; have s1 := hQ7.cells.2.1))
              have H7 := Lib.hid hQ7
              clear hQ6 hQ7 hb6 hb7 r1 s1 HF HF2
              go_wp2_with fail
              go_meet
              case rel => exact ⟨n, c, ro, S, st, K + n + 1, by go_num, H7.out.1, by simpa using HOK.out.1.set 0 (by omega), by omega, by omega, by omega, HOK.out.2⟩
        have e3 : (((kd : Nat) : Int) == 3) = false := by simp; omega
        clear k3 k2 k1 k0
        by_cases hAB : (0 ≤ A ∧ A < n) ∧ (0 ≤ B ∧ B < n)
        · obtain ⟨x, rfl⟩ : ∃ x : Nat, A = (x : Int) := ⟨A.toNat, by omega⟩
          obtain ⟨y, rfl⟩ : ∃ y : Nat, B = (y : Int) := ⟨B.toNat, by omega⟩
          have hx : x < n := by omega
          have hy : y < n := by omega
          have hdg := Lib.hid (dg_dgs (n := n) (by omega))
          have HF := (hQ.below (Below.refl _ _).drew).same ⟨by omega, by omega⟩ x y hx hy
          obtain ⟨bb, hbb⟩ : ∃ b, (c x == c y) = b := ⟨_, rfl⟩
          rw [hbb] at HF
          have fbb : (bb != bb) = false := by simp
          have HBB := Lib.hid hbb
          clear hQ hAB hbb q0
          go_wp2_with fail
          go_region_held3 (fun W => W.cell? ⟨h, 1, none⟩ = some (.int .i64 (x : Nat)) ∧ W.cell? ⟨h, 2, none⟩ = some (.int .i64 (y : Nat)))
            (first | exact ⟨q1, q2⟩ | exact p1 | exact r1)
            (first
              | (go_at_call 20; refine HF.mono ?_; rintro e w5 ⟨k, rfl, hk, hQ5⟩; have p1 := hQ5.cells.2)
              | (go_at_call 14; refine (rsame_is hQ5.1.r x y hx hy bb HBB.out).mono ?_; rintro e w6 ⟨rfl, q, rfl⟩; have hQ6 := hQ5.below (Below.drews _ q); have r1 := hQ6.cells.2))
          have H7 := Lib.hid (And.intro hQ6 hk)
          clear hQ5 hQ6 hk p1 r1 HF
          go_wp2_with fail
          go_meet
          case rel =>
            have hk := H7.out.2
            have hdg := hdg.out
            exact ⟨n, c, ro, S, st + k, K + 1, by go_num, H7.out.1.1, HOK.out.1.one k (by omega), by omega, by omega, by omega, HOK.out.2⟩
        · have HF := same_out (hQ.below (Below.refl _ _).drew).1.f A B hAB
          have HF2 := rsame_out (hQ.below (Below.refl _ _).drew).1.r A B hAB
          have HQ := Lib.hid hQ
          clear hQ hAB q0
          go_wp2_with fail
          go_region_held3 (fun W => W.cell? ⟨h, 1, none⟩ = some (.int .i64 A) ∧ W.cell? ⟨h, 2, none⟩ = some (.int .i64 B))
            (first | exact ⟨q1, q2⟩ | exact r1)
            (first
              | (go_at_call 20; refine HF.mono ?_; rintro e w5 ⟨rfl, rfl⟩)
              | (go_at_call 14; refine HF2.mono ?_; rintro e w6 ⟨rfl, q, rfl⟩; have hQ6 := (HQ.out.below (Below.refl _ _).drew).below (Below.drews _ q); have r1 := hQ6.cells.2))
          have H7 := Lib.hid (HQ.out.below (Below.drews _ (1 + q)))
          clear hQ6 r1 HF HF2
          go_wp2_with fail
          go_meet
          case rel => exact ⟨n, c, ro, S, st, K + 1, by go_num, H7.out.1, HOK.out.1.by_ 1, by omega, by omega, by omega, HOK.out.2⟩
      case rest =>
        obtain ⟨n', c', ro', S', st', K', rfl, hP, hok, hss, hn', hK', hfr⟩ := hcut
        obtain ⟨Ar, cr, rfl⟩ := row_form hP.r
        have HL1 := len_uf hP.f
        have HS1 := sets_uf hP.f
        have HC := rcount_any hP.r (by omega)
        obtain ⟨ct, hct⟩ : ∃ ct, cnt n' c' = ct := ⟨_, rfl⟩
        rw [hct] at HS1 HC
        have f4 : (((n' : Nat) : Int) != (n' : Nat)) = false := by simp
        have f5 : (((ct : Nat) : Int) != (ct : Nat)) = false := by simp
        have f6 : decide (st' < st) = false := decide_eq_false (by omega)
        obtain ⟨d, hd⟩ : ∃ d, dgs n' = d := ⟨_, rfl⟩
        have hd21 : d ≤ 21 := by rw [← hd]; exact dgs_le (by omega)
        have hK'1 : 1 ≤ K' := hok.2.1
        have hst' : 0 ≤ st' ∧ st' ≤ 100000000 := ⟨hok.1, hok.le (by omega) (by omega)⟩
        have hbnd : st' ≤ K' * (4 * (d : Nat) + 8) := by rw [← hd]; exact hok.2.2
        have hlo : 0 ≤ K' * (4 * ((d : Nat) : Int) + 8) := Int.mul_nonneg (by omega) (by omega)
        have hhi : K' * (4 * ((d : Nat) : Int) + 8) ≤ K' * 92 := Int.mul_le_mul_of_nonneg_left (by omega) (by omega)
        have f7 : decide (K' * (4 * ((d : Nat) : Int) + 8) < st') = false := decide_eq_false (by omega)
        have f8 : IntKind.i64.wrap (K' * (4 * ((d : Nat) : Int) + 8)) = K' * (4 * ((d : Nat) : Int) + 8) := IntWalk.i64_in _ (by omega)
        have HR := Lib.hid (And.intro hP (And.intro hok (And.intro hfr (And.intro hd hct))))
        clear hP hok hfr hd hct hbnd hlo hhi HOK hQ
        go_wp2_with fail
        refine HL1.mono ?_
        rintro e w6 ⟨rfl, rfl⟩
        go_wp2_with fail
        refine HS1.mono ?_
        rintro e w6 ⟨rfl, rfl⟩
        go_wp2_with fail
        refine HC.mono ?_
        rintro e w7 ⟨rfl, hb7⟩
        have hP7 := HR.out.1.below hb7
        have HST := steps_uf hP7.f
        have HD := digits_any w7 n' (by omega)
        rw [HR.out.2.2.2.1] at HD
        have H7 := Lib.hid hP7
        clear hP7 hb7 HC HS1 HL1
        go_wp2_with fail
        refine HST.mono ?_
        rintro e w8 ⟨rfl, rfl⟩
        go_wp2_with fail
        refine HST.mono ?_
        rintro e w8 ⟨rfl, rfl⟩
        go_wp2_with fail
        refine HD.mono ?_
        rintro e w8 ⟨rfl, rfl⟩
        go_wp2_with fail
        refine HST.mono ?_
        rintro e w8 ⟨rfl, rfl⟩
        go_wp2_with fail
        go_roundw
        case rel => exact ⟨i + 1, n', c', ro', S', st', K', by go_num, by omega, rfl, rfl, H7.out, HR.out.2.1, by omega, by omega, HR.out.2.2.1⟩
        case measure =>
          simp only [intAt]
          omega
    · obtain rfl : i = L.length := by omega
      have g1 : decide (((L.length : Nat) : Int) < (L.length : Nat)) = false := decide_eq_false (by omega)
      have HB := Lib.hid hP.bel
      have HW := awake_any wr
      clear hP hok hfr HP HL
      go_wp2_with fail
      refine HW.mono ?_
      rintro e w7 ⟨rfl, hb7⟩
      have HB7 := Lib.hid (HB.out.trans (hb7.mono HB.out.size))
      clear hb7 HW
      go_wp2_with fail
      go_ret
      exact ⟨rfl, HB7.out⟩
end Go.Proofs.Ytamieophdnnbnaa.Un
