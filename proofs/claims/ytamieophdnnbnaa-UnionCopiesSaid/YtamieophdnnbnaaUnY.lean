/- UnionCopies: the walk. -/
import Derived.Test.YtamieophdnnbnaaUnX
import Derived.Deep.QuietTactic
import Derived.BigQuiet
import Derived.StillTailTactics
import Derived.Deep.CutBlock
import Derived.Deep.DeepCutAuto
namespace Go.Proofs.Ytamieophdnnbnaa.Un
open Go.RowKit

def Cp1 (w : World) (u m : Nat) (L : List (Nat × Nat)) (sv s : Value) (wr : World) : Prop :=
  ∃ i : Nat, s = .int .i64 (i : Int) ∧ i ≤ L.length ∧ ∃ c : Nat → Nat, One w u m c (i * 42) wr ∧ wr.ownsRow u 3 1 sv m (rowI m c)
set_option maxRecDepth 100000 in
set_option maxHeartbeats 4000000 in
theorem copies_any (w : World) (n0 : Nat) (_hn0 : n0 < 256) (vl vo : Value) (L O : List (Nat × Nat)) (hl : RdP w vl L) (ho : RdP w vo O) :
    Calls Try.prog 6 #[.int .u8 (n0 : Nat), vl, vo] w fun e w' => e = .returned (.bool true) ∧ Below w.heap.size w w' := by
  obtain ⟨Al, cl, rfl⟩ := hl.slice
  obtain ⟨Ao, co, rfl⟩ := ho.slice
  have HL := Lib.hid hl
  have HO := Lib.hid ho
  clear hl ho
  by_cases h1 : 40 < L.length
  · have f1 : decide ((40 : Int) < (L.length : Nat)) = true := decide_eq_true (by omega)
    have HW := awake_any w
    go_enter Try.func6, Try.ntmps6
    go_wp2_with fail
    refine HW.mono ?_
    rintro e w1 ⟨rfl, hB⟩
    have HB := Lib.hid hB
    clear hB HW
    go_wp2_with fail
    go_ret
    exact ⟨rfl, HB.out⟩
  have f1 : decide ((40 : Int) < (L.length : Nat)) = false := decide_eq_false (by omega)
  by_cases h2 : 40 < O.length
  · have f2 : decide ((40 : Int) < (O.length : Nat)) = true := decide_eq_true (by omega)
    have HW := awake_any w
    go_enter Try.func6, Try.ntmps6
    go_wp2_with fail
    refine HW.mono ?_
    rintro e w1 ⟨rfl, hB⟩
    have HB := Lib.hid hB
    clear hB HW
    go_wp2_with fail
    go_ret
    exact ⟨rfl, HB.out⟩
  have f2 : decide ((40 : Int) < (O.length : Nat)) = false := decide_eq_false (by omega)
  obtain ⟨a, ha⟩ : ∃ a, n0 % 20 = a := ⟨_, rfl⟩
  have ha20 : a < 20 := by omega
  have f3 : (n0 : Int).tmod 20 = (a : Int) := by rw [← ha]; rfl
  obtain ⟨m, hm⟩ : ∃ m, 1 + a = m := ⟨_, rfl⟩
  have em : (1 : Int) + (a : Int) = (m : Int) := by omega
  have HN := new_in w m (by omega)
  go_enter Try.func6, Try.ntmps6
  go_wp2_with fail
  refine HN.mono ?_
  rintro e w1 ⟨rfl, hU1, hB1⟩
  have hT := One.start hU1 hB1
  have hu := hB1.size
  have HN2 := rnew_any w1 m (by omega)
  obtain ⟨u, hu1⟩ : ∃ u, w1.heap.size = u := ⟨_, rfl⟩
  rw [hu1] at hT hu HN2
  have HT := Lib.hid (And.intro hT hu1)
  clear hT hU1 hB1 HN hu1
  have hm0 : 0 < m := by omega
  have hm20 : m ≤ 20 := by omega
  have hL40 : L.length ≤ 40 := by omega
  have hO40 : O.length ≤ 40 := by omega
  clear ha hm em f3 ha20
  go_wp2_with fail
  refine HN2.mono ?_
  rintro e w2 ⟨sv, rfl, hs, hb2⟩
  have HS := Lib.hid (And.intro (HT.out.1.below (by rw [HT.out.2]; exact hb2)) hs)
  obtain ⟨gs, cs, rfl, _, _⟩ := own_shape hs hm0
  clear hs hb2 HN2 HT
  go_wp2_with fail
  go_loopw [10, 11] (fun sv s wr => Cp1 w u m L sv s wr) (fun _ s _ => ((L.length : Int) - intAt s).toNat)
  case atStart => exact ⟨0, rfl, by omega, fun j => j, by simpa using HS.out.1, HS.out.2⟩
  case round =>
    rename_i sv0 s0
    obtain ⟨i, rfl, hi, c, hT, hs⟩ := hrel
    obtain ⟨g, cg, rfl, _, _⟩ := own_shape hs hm0
    by_cases hin : i < L.length
    · have g1 : decide ((i : Int) < (L.length : Nat)) = true := decide_eq_true (by omega)
      have hbl := hT.bel
      obtain ⟨bl, off, rfl, hb0, c1, c2, b1, b2⟩ := (HL.out.below hbl).at_ hin
      obtain ⟨p, hp⟩ : ∃ p, L[i] = p := ⟨_, rfl⟩
      rw [hp] at c1 c2 b1 b2
      obtain ⟨x, hx⟩ : ∃ x, p.1 % m = x := ⟨_, rfl⟩
      obtain ⟨y, hy⟩ : ∃ y, p.2 % m = y := ⟨_, rfl⟩
      have hxm : x < m := by rw [← hx]; exact Nat.mod_lt _ hm0
      have hym : y < m := by rw [← hy]; exact Nat.mod_lt _ hm0
      have ex : ((p.1 : Nat) : Int).tmod (m : Int) = (x : Int) := by rw [← hx]; rfl
      have ey : ((p.2 : Nat) : Int).tmod (m : Int) = (y : Int) := by rw [← hy]; rfl
      have hmne : ¬ m = 0 := by omega
      have w1' : IntKind.i64.wrap ((p.1 : Nat) : Int) = (p.1 : Nat) := IntWalk.i64_in _ (by omega)
      have w2' : IntKind.i64.wrap ((p.2 : Nat) : Int) = (p.2 : Nat) := IntWalk.i64_in _ (by omega)
      have HC := (hT.below (Below.refl _ _).drew).join (by omega) x y hxm hym
      have HSR := Lib.hid hs
      have HL2 := Lib.hid (show RdP w (.slice (some ⟨bl, off, none⟩) L.length cl) L from HL.out)
      clear hx hy hbl hT hs
      have HP := Lib.hid hp
      clear hp
      go_wp2_with fail
      go_still_tail 17, (by kernel_rfl)
      change wpList _ _ _ _ _ wr.drew
      go_wp2_with fail
      refine HC.mono ?_
      rintro e w5 ⟨r, t, rfl, hT5, hE5⟩
      have hs5 := row_else (show wr.drew.ownsRow u 3 1 _ m _ from HSR.out) hE5 (fun k hk hk2 => by have := (HSR.out.lt k hk).1; omega)
      have hbl := hT5.bel
      obtain ⟨bl', off', hbe, hb0', d1, d2, _, _⟩ := (HL2.out.below hbl).at_ hin
      injection hbe with hbe
      injection hbe with hbe1 hbe2 _
      subst hbe1; subst hbe2
      rw [HP.out] at d1 d2
      have HJ := rjoin_in (w := w5.drew) (show w5.drew.ownsRow u 3 1 (.slice (some ⟨g, 0, none⟩) m cg) m (rowI m c) from hs5) x y hxm hym (by omega)
      have HR := Lib.hid (And.intro hT5 hT5.ule)
      clear hT5 hE5 hs5 HC c1 c2 hb0 hbl
      go_wp2_with fail
      go_still_tail 17, (by kernel_rfl)
      change wpList _ _ _ _ _ w5.drew
      go_wp2_with fail
      refine HJ.mono ?_
      rintro e w6 ⟨sv6, rfl, hs6, hb6⟩
      have hT6 := (HR.out.1.below (Below.refl _ _).drew).below hb6
      have hs6' : w6.ownsRow u 3 1 sv6 m (rowI m (paint c x y)) := row_mono hs6 HR.out.2
      obtain ⟨g6, c6, rfl, _, _⟩ := own_shape hs6' hm0
      have HREL := Lib.hid (And.intro (hT6.more (M := ((i + 1 : Nat) : Int) * 42) (by omega)) hs6')
      clear hT6 hs6' hs6 hb6 HJ
      go_wp2_with fail
      go_roundw
      case rel => exact ⟨i + 1, by go_num, by omega, _, HREL.out.1, HREL.out.2⟩
      case measure =>
        simp only [intAt]
        omega
    · obtain rfl : i = L.length := by omega
      have g1 : decide (((L.length : Nat) : Int) < (L.length : Nat)) = false := decide_eq_false (by omega)
      have HCP := copy_one hT hm0
      have HTS := Lib.hid (And.intro (hT.more (M := 2000) (by omega)) hs)
      clear hT hs HS
      go_wp2_with fail
      refine HCP.mono ?_
      rintro e w3 ⟨b', rfl, hCo, hb3⟩
      obtain ⟨p, hp⟩ : ∃ p, wr.heap.size = p := ⟨_, rfl⟩
      have hup : u ≤ p := by rw [← hp]; exact HTS.out.1.ule
      have hTri : Tri w u p m c (.slice (some ⟨g, 0, none⟩) m cg) b' m 2000 w3 := by
        obtain ⟨cg', ro', st', q1, q2⟩ := hCo
        rw [hp] at q1
        exact ⟨HTS.out.1.below hb3, row_later HTS.out.2 hb3, fun k hk => by rw [← hp]; exact (HTS.out.2.lt k hk).2, cg', ro', st', q1, by omega⟩
      have hpw : p ≤ w3.heap.size := by rw [← hp]; exact hb3.size
      have HTR := Lib.hid (And.intro hTri hpw)
      clear hCo hb3 hTri hpw HCP HTS hp
      go_wp2_with fail
      go_loopw [13] (fun s wr => ∃ i : Nat, s = .int .i64 (i : Int) ∧ i ≤ O.length ∧ Tri w u p m c (.slice (some ⟨g, 0, none⟩) m cg) b' m (2000 + i * 42) wr ∧ p ≤ wr.heap.size) (fun s _ => ((O.length : Int) - intAt s).toNat)
      case atStart => exact ⟨0, rfl, by omega, by simpa using HTR.out.1, HTR.out.2⟩
      case round =>
        obtain ⟨i, rfl, hi, hT, hpw⟩ := hrel
        by_cases hin : i < O.length
        · have g2 : decide ((i : Int) < (O.length : Nat)) = true := decide_eq_true (by omega)
          have hbl := hT.f.bel
          obtain ⟨bo, oo, rfl, ho0, c1, c2, b1, b2⟩ := (HO.out.below hbl).at_ hin
          obtain ⟨p1, hp⟩ : ∃ p, O[i] = p := ⟨_, rfl⟩
          rw [hp] at c1 c2 b1 b2
          obtain ⟨x, hx⟩ : ∃ x, p1.1 % m = x := ⟨_, rfl⟩
          obtain ⟨y, hy⟩ : ∃ y, p1.2 % m = y := ⟨_, rfl⟩
          have hxm : x < m := by rw [← hx]; exact Nat.mod_lt _ hm0
          have hym : y < m := by rw [← hy]; exact Nat.mod_lt _ hm0
          have ex : ((p1.1 : Nat) : Int).tmod (m : Int) = (x : Int) := by rw [← hx]; rfl
          have ey : ((p1.2 : Nat) : Int).tmod (m : Int) = (y : Int) := by rw [← hy]; rfl
          have hmne : ¬ m = 0 := by omega
          have w1' : IntKind.i64.wrap ((p1.1 : Nat) : Int) = (p1.1 : Nat) := IntWalk.i64_in _ (by omega)
          have w2' : IntKind.i64.wrap ((p1.2 : Nat) : Int) = (p1.2 : Nat) := IntWalk.i64_in _ (by omega)
          have HC := (hT.below (Below.refl _ _).drew).join (by omega) hu hup x y hxm hym
          have HPW := Lib.hid hpw
          clear hp hx hy hbl hT hpw
          go_wp2_with fail
          go_still_tail 17, (by kernel_rfl)
          change wpList _ _ _ _ _ wr.drew
          go_wp2_with fail
          refine HC.mono ?_
          rintro e w5 ⟨r, t, rfl, hT5⟩
          have hpw5 : p ≤ w5.heap.size := by
            obtain ⟨_, _, _, q1, _⟩ := hT5.g
            obtain ⟨_, _, _, _, _, _, _, q2, _⟩ := q1
            exact Nat.le_of_lt (Nat.lt_of_le_of_lt q2.sb q2.lt)
          have HREL := Lib.hid (And.intro (hT5.more (M := 2000 + ((i + 1 : Nat) : Int) * 42) (by omega)) hpw5)
          clear hT5 HC hpw5
          go_wp2_with fail
          go_roundw
          case rel => exact ⟨i + 1, by go_num, by omega, HREL.out.1, HREL.out.2⟩
          case measure =>
            simp only [intAt]
            omega
        · have g2 : decide ((i : Int) < (O.length : Nat)) = false := decide_eq_false (by omega)
          have HAD := hT.add hu hup (by omega) hpw
          clear hT hpw HTR
          go_wp2_with fail
          refine HAD.mono ?_
          rintro e w6 ⟨rfl, hT6⟩
          have HT6 := Lib.hid (hT6.more (M := 4000) (by omega))
          clear hT6 HAD
          go_wp2_with fail
          go_loopw [14] (fun s wr => ∃ i : Nat, s = .int .i64 (i : Int) ∧ i ≤ m ∧ Tri w u p m c (.slice (some ⟨g, 0, none⟩) m cg) b' (m + 1) (4000 + i * 42) wr) (fun s _ => ((m : Int) - intAt s).toNat)
          case atStart => exact ⟨0, rfl, by omega, by simpa using HT6.out⟩
          case round =>
            obtain ⟨k, rfl, hk, hT⟩ := hrel
            by_cases hkm : k < m
            · have g3 : decide ((k : Int) < (m : Nat)) = true := decide_eq_true (by omega)
              have HC := hT.set (by omega) hup k hkm hm20
              clear hT
              go_wp2_with fail
              refine HC.mono ?_
              rintro e w7 ⟨va, rfl, hra, hT7⟩
              have HC2 := rset_in hT7.s k hkm (by omega)
              have HA := Lib.hid (And.intro hra hT7)
              clear hra hT7 HC
              go_wp2_with fail
              refine HC2.mono ?_
              rintro e w8 ⟨vb, rfl, hrb, hb8⟩
              have HC3 := ints_same (HA.out.1.below hb8) (Rd.of_own hrb) (Nat.le_trans (mem_len _ _ _) (by omega))
              have HB := Lib.hid (HA.out.2.below hb8)
              clear hrb hb8 HC2
              go_wp2_with fail
              refine HC3.mono ?_
              rintro e w9 ⟨rfl, hb9⟩
              have HREL := Lib.hid ((HB.out.below hb9).more (M := 4000 + ((k + 1 : Nat) : Int) * 42) (by omega))
              clear hb9 HC3
              go_wp2_with fail
              go_roundw
              case rel => exact ⟨k + 1, by go_num, by omega, HREL.out⟩
              case measure =>
                simp only [intAt]
                omega
            · have g3 : decide ((k : Int) < (m : Nat)) = false := decide_eq_false (by omega)
              have HB := Lib.hid hT.f.bel
              have HW := awake_any wr
              obtain ⟨_, _, q1, _⟩ := hT.f
              have HL1 := len_uf q1
              obtain ⟨_, _, _, q2, _⟩ := hT.g
              have HL2 := len_uf q2
              have e1 : ((m + 1 : Nat) : Int) = (m : Int) + 1 := by omega
              rw [e1] at HL2
              clear hT q1 q2 HT6 e1
              go_wp2_with fail
              refine HL1.mono ?_
              rintro e w6 ⟨rfl, rfl⟩
              go_wp2_with fail
              refine HL2.mono ?_
              rintro e w6 ⟨rfl, rfl⟩
              go_wp2_with fail
              refine HW.mono ?_
              rintro e w7 ⟨rfl, hb7⟩
              have HB7 := Lib.hid (HB.out.trans (hb7.mono HB.out.size))
              clear hb7
              go_wp2_with fail
              go_ret
              exact ⟨rfl, HB7.out⟩
end Go.Proofs.Ytamieophdnnbnaa.Un
