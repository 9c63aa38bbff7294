/- UnionOrder: the walk. -/
import Derived.Test.YtamieophdnnbnaaUnI
import Derived.BigRegion
import Derived.StillTailTactics
import Derived.Deep.CutBlock
import Derived.Deep.DeepCutAuto
namespace Go.Proofs.Ytamieophdnnbnaa.Un
open Go.RowKit

def Loop2 (w : World) (u v m : Nat) (L : List (Nat × Nat)) (O : List Nat) (cf : Nat → Nat) (s : Value) (wr : World) : Prop :=
  ∃ i : Nat, s = .int .i64 (i : Int) ∧ i ≤ O.length ∧ ∃ (cg : Nat → Nat) (E : List (Nat × Nat)), Joined m E cg ∧ (∀ e ∈ E, ∃ p ∈ L, e = (pr m p).swap) ∧ Two w u v m cf cg ((L.length + i) * 42) wr
def End2 (w : World) (u v m : Nat) (L : List (Nat × Nat)) (O : List Nat) (cf : Nat → Nat) (wr : World) : Prop :=
  ∃ (cg : Nat → Nat) (E : List (Nat × Nat)), Joined m E cg ∧ (∀ e ∈ E, ∃ p ∈ L, e = (pr m p).swap) ∧ Two w u v m cf cg ((L.length + O.length) * 42) wr
def Loop3 (w : World) (u v m : Nat) (L : List (Nat × Nat)) (O : List Nat) (cf : Nat → Nat) (s : Value) (wr : World) : Prop :=
  ∃ (z : Int) (j : Nat), s = .int .i64 z ∧ z + 1 = (j : Int) ∧ j ≤ L.length ∧ ∃ (cg : Nat → Nat) (E : List (Nat × Nat)), Joined m E cg ∧ (∀ e ∈ E, ∃ p ∈ L, e = pr m p ∨ e = (pr m p).swap) ∧ (∀ k, j ≤ k → (hk : k < L.length) → pr m L[k] ∈ E) ∧
    Two w u v m cf cg (((L.length : Nat) + (O.length : Nat) + (((L.length : Nat) : Int) - j)) * 42) wr
set_option maxRecDepth 100000 in
set_option maxHeartbeats 4000000 in
theorem order_any (w : World) (n0 : Nat) (hn0 : n0 < 256) (vl vo : Value) (L : List (Nat × Nat)) (O : List Nat) (hl : RdP w vl L) (ho : RdB w vo O) :
    Calls Try.prog 4 #[.int .u8 (n0 : Nat), vl, vo] w fun e w' => e = .returned (.bool true) ∧ Below w.heap.size w w' := by
  obtain ⟨Al, cl, rfl⟩ := hl.slice
  obtain ⟨Ao, co, rfl⟩ := ho.slice
  have HL := Lib.hid hl
  have HO := Lib.hid ho
  clear hl ho
  by_cases h1 : 40 < L.length
  · have f1 : decide ((40 : Int) < (L.length : Nat)) = true := decide_eq_true (by omega)
    have HW := awake_any w
    go_enter Try.func4, Try.ntmps4
    go_wp2_with fail
    refine HW.mono ?_
    rintro e w1 ⟨rfl, hB⟩
    have HB := Lib.hid hB
    clear hB HW
    go_wp2_with fail
    go_ret
    exact ⟨rfl, HB.out⟩
  have f1 : decide ((40 : Int) < (L.length : Nat)) = false := decide_eq_false (by omega)
  by_cases h2 : 60 < O.length
  · have f2 : decide ((60 : Int) < (O.length : Nat)) = true := decide_eq_true (by omega)
    have HW := awake_any w
    go_enter Try.func4, Try.ntmps4
    go_wp2_with fail
    refine HW.mono ?_
    rintro e w1 ⟨rfl, hB⟩
    have HB := Lib.hid hB
    clear hB HW
    go_wp2_with fail
    go_ret
    exact ⟨rfl, HB.out⟩
  have f2 : decide ((60 : Int) < (O.length : Nat)) = false := decide_eq_false (by omega)
  obtain ⟨a, ha⟩ : ∃ a, n0 % 20 = a := ⟨_, rfl⟩
  have ha20 : a < 20 := by omega
  have f3 : (n0 : Int).tmod 20 = (a : Int) := by rw [← ha]; rfl
  obtain ⟨m, hm⟩ : ∃ m, 1 + a = m := ⟨_, rfl⟩
  have em : (1 : Int) + (a : Int) = (m : Int) := by omega
  have HN := new_in w m (by omega)
  go_enter Try.func4, Try.ntmps4
  go_wp2_with fail
  refine HN.mono ?_
  rintro e w1 ⟨rfl, hU1, hB1⟩
  have HN2 := new_in w1 m (by omega)
  have H1 := Lib.hid (And.intro hU1 hB1)
  clear hU1 hB1 HN
  go_wp2_with fail
  refine HN2.mono ?_
  rintro e w2 ⟨rfl, hU2, hB2⟩
  have hT := Two.start H1.out.1 H1.out.2 hU2 hB2
  have hu := H1.out.2.size
  obtain ⟨u, hu1⟩ : ∃ u, w1.heap.size = u := ⟨_, rfl⟩
  obtain ⟨v, hv1⟩ : ∃ v, w2.heap.size = v := ⟨_, rfl⟩
  rw [hu1] at hT hu ⊢
  rw [hv1] at hT
  have HT := Lib.hid hT
  clear hT hU2 hB2 HN2 H1 hu1 hv1
  have hm0 : 0 < m := by omega
  have hm20 : m ≤ 20 := by omega
  have hL40 : L.length ≤ 40 := by omega
  have hO60 : O.length ≤ 60 := by omega
  clear ha hm em f3 ha20
  go_wp2_with fail
  go_loopw [12] (fun s wr => ∃ i : Nat, s = .int .i64 (i : Int) ∧ i ≤ L.length ∧ ∃ cf, Joined m ((L.take i).map (pr m)).reverse cf ∧ Two w u v m cf (fun j => j) (i * 42) wr) (fun s _ => ((L.length : Int) - intAt s).toNat)
  case atStart => exact ⟨0, rfl, by omega, fun j => j, by simpa using Joined.none m, by simpa using HT.out⟩
  case round =>
    obtain ⟨i, rfl, hi, cf, hJ, hT⟩ := hrel
    by_cases hin : i < L.length
    · have g1 : decide ((i : Int) < (L.length : Nat)) = true := decide_eq_true (by omega)
      have hbl := hT.bel
      obtain ⟨bl, off, rfl, hb0, c1, c2, b1, b2⟩ := (HL.out.below hbl).at_ hin
      obtain ⟨p, hp⟩ : ∃ p, L[i] = p := ⟨_, rfl⟩
      rw [hp] at c1 c2 b1 b2
      obtain ⟨x, hx⟩ : ∃ x, p.1 % m = x := ⟨_, rfl⟩
      obtain ⟨y, hy⟩ : ∃ y, p.2 % m = y := ⟨_, rfl⟩
      have hxm : x < m := by rw [← hx]; exact Nat.mod_lt _ hm0
      have hym : y < m := by rw [← hy]; exact Nat.mod_lt _ hm0
      have ex : ((p.1 : Nat) : Int).tmod (m : Int) = (x : Int) := by rw [← hx]; rfl
      have ey : ((p.2 : Nat) : Int).tmod (m : Int) = (y : Int) := by rw [← hy]; rfl
      have hmne : ¬ m = 0 := by omega
      have w1' : IntKind.i64.wrap ((p.1 : Nat) : Int) = (p.1 : Nat) := IntWalk.i64_in _ (by omega)
      have w2' : IntKind.i64.wrap ((p.2 : Nat) : Int) = (p.2 : Nat) := IntWalk.i64_in _ (by omega)
      have HJJ := Lib.hid (And.intro hJ (And.intro hT (And.intro hp (And.intro hx hy))))
      have HC := (hT.below (Below.refl _ _).drew).joinF (by omega) hu x y hxm hym
      clear hJ hp hx hy hbl hT
      go_wp2_with fail
      go_still_tail 17, (by kernel_rfl)
      change wpList _ _ _ _ _ wr.drew
      go_wp2_with fail
      refine HC.mono ?_
      rintro e w5 ⟨r, t, rfl, hT5⟩
      obtain ⟨hJ, hT, hp, hx, hy⟩ := HJJ.out
      have hnext : Joined m ((L.take (i + 1)).map (pr m)).reverse (paint cf x y) := by
        rw [List.take_succ_eq_append_getElem hin, List.map_append, List.reverse_append, hp]
        show Joined m (pr m p :: _) _
        unfold pr
        rw [hx, hy]
        exact hJ.one hxm hym
      have HREL := Lib.hid (And.intro hnext (hT5.more (M := ((i + 1 : Nat) : Int) * 42) (by omega)))
      clear hnext hJ hT hp hx hy hT5 HC
      go_wp2_with fail
      go_roundw
      case rel => exact ⟨i + 1, by go_num, by omega, _, HREL.out.1, HREL.out.2⟩
      case measure =>
        simp only [intAt]
        omega
    · obtain rfl : i = L.length := by omega
      have g1 : decide (((L.length : Nat) : Int) < (L.length : Nat)) = false := decide_eq_false (by omega)
      have hJ' : Joined m (L.map (pr m)).reverse cf := by rw [← List.take_length (l := L)]; exact hJ
      have H1 := Lib.hid (And.intro hJ' hT)
      clear hJ hJ' hT HT
      go_upto_block 2 with fail
      go_cut [] (fun wx => End2 w u v m L O cf wx)
      case first =>
        go_wp2_with fail
        go_loopw [13, 14] (fun s _ wr => Loop2 w u v m L O cf s wr) (fun s _ _ => ((O.length : Int) - intAt s).toNat)
        case atStart => exact ⟨0, rfl, by omega, fun j => j, [], Joined.none m, fun e he => (by cases he), by simpa using H1.out.2⟩
        case round =>
          obtain ⟨i, rfl, hi, cg, E, hJg, hE, hT⟩ := hrel
          by_cases hin : i < O.length ∧ 0 < L.length
          · obtain ⟨hiO, hL0⟩ := hin
            have g1 : decide ((i : Int) < (O.length : Nat)) = true := decide_eq_true (by omega)
            have g2 : decide ((0 : Int) < (L.length : Nat)) = true := decide_eq_true (by omega)
            have hbl := hT.bel
            obtain ⟨bo, oo, rfl, ho0, d1, e1⟩ := (HO.out.below hbl).at_ hiO
            obtain ⟨z, hz⟩ : ∃ z, O[i] = z := ⟨_, rfl⟩
            rw [hz] at d1 e1
            obtain ⟨q, hq⟩ : ∃ q, z % L.length = q := ⟨_, rfl⟩
            have hqL : q < L.length := by rw [← hq]; exact Nat.mod_lt _ hL0
            have eq_ : ((z : Nat) : Int).tmod ((L.length : Nat) : Int) = (q : Int) := by rw [← hq]; rfl
            have hlne : ¬ L.length = 0 := by omega
            have wz : IntKind.i64.wrap ((z : Nat) : Int) = (z : Nat) := IntWalk.i64_in _ (by omega)
            obtain ⟨bl, off, rfl, hb0, c1, c2, b1, b2⟩ := (HL.out.below hbl).at_ hqL
            obtain ⟨p, hp⟩ : ∃ p, L[q] = p := ⟨_, rfl⟩
            rw [hp] at c1 c2 b1 b2
            obtain ⟨x, hx⟩ : ∃ x, p.1 % m = x := ⟨_, rfl⟩
            obtain ⟨y, hy⟩ : ∃ y, p.2 % m = y := ⟨_, rfl⟩
            have hxm : x < m := by rw [← hx]; exact Nat.mod_lt _ hm0
            have hym : y < m := by rw [← hy]; exact Nat.mod_lt _ hm0
            have ex : ((p.1 : Nat) : Int).tmod (m : Int) = (x : Int) := by rw [← hx]; rfl
            have ey : ((p.2 : Nat) : Int).tmod (m : Int) = (y : Int) := by rw [← hy]; rfl
            have hmne : ¬ m = 0 := by omega
            have w1' : IntKind.i64.wrap ((p.1 : Nat) : Int) = (p.1 : Nat) := IntWalk.i64_in _ (by omega)
            have w2' : IntKind.i64.wrap ((p.2 : Nat) : Int) = (p.2 : Nat) := IntWalk.i64_in _ (by omega)
            have HJJ := Lib.hid (And.intro hJg (And.intro hE (And.intro hp (And.intro hx (And.intro hy hT)))))
            clear hJg hE hp hx hy hT hz hq hbl
            go_upto_region 16 with fail
            refine wp_world (fun V => Two w u v m cf cg ((L.length + i) * 42) V ∧ V.heap[wr.heap.size]? = some (Obj.cells #[.int .u8 (p.1 : Nat), .int .u8 (p.2 : Nat)] 46)) ⟨HJJ.out.2.2.2.2.2.below ((Below.refl _ _).alloc (Nat.le_refl _) _), heap_alloc_new wr _⟩ ?_
            rintro V ⟨hT, hV⟩
            have k0 : V.cell? ⟨wr.heap.size, 0, none⟩ = some (.int .u8 (p.1 : Nat)) := cell_of_row V _ 0 _ _ _ hV
            have k1 : V.cell? ⟨wr.heap.size, 1, none⟩ = some (.int .u8 (p.2 : Nat)) := cell_of_row V _ 1 _ _ _ hV
            have HC := (hT.below (Below.refl _ _).drew).joinG (by omega) hu y x hym hxm
            clear hT hV c1 c2 d1
            go_still_tail 11, (by kernel_rfl)
            change wpList _ _ _ _ _ V.drew
            go_wp2_with fail
            refine HC.mono ?_
            rintro e w5 ⟨r, t, rfl, hT5⟩
            obtain ⟨hJ, hE, hp, hx, hy, _⟩ := HJJ.out
            have hmem : p ∈ L := by rw [← hp]; exact List.getElem_mem hqL
            have hn2 : ∀ e ∈ (y, x) :: E, ∃ p ∈ L, e = (pr m p).swap := by
              intro e he
              rcases List.mem_cons.1 he with rfl | he
              · exact ⟨p, hmem, by unfold pr; rw [hx, hy]; rfl⟩
              · exact hE e he
            have HREL := Lib.hid (And.intro (hJ.one hym hxm) (And.intro hn2 (hT5.more (M := (((L.length : Nat) : Int) + ((i + 1 : Nat) : Int)) * 42) (by omega))))
            clear hJ hE hp hx hy hT5 HC hn2 hmem
            go_wp2_with fail
            go_roundw
            case rel => exact ⟨i + 1, by go_num, by omega, _, _, HREL.out.1, HREL.out.2.1, HREL.out.2.2⟩
            case measure =>
              simp only [intAt]
              omega
          · have HREL := Lib.hid (And.intro hJg (And.intro hE hT))
            clear hJg hE hT
            by_cases hiO : i < O.length
            · have g1 : decide ((i : Int) < (O.length : Nat)) = true := decide_eq_true (by omega)
              have g2 : decide ((0 : Int) < (L.length : Nat)) = false := decide_eq_false (by omega)
              have g3 : decide (0 < L.length) = false := decide_eq_false (by omega)
              have g4 : decide (L.length > 0) = false := decide_eq_false (by omega)
              clear hin
              go_wp2_with fail
              go_meet
              case rel => exact ⟨cg, E, HREL.out.1, HREL.out.2.1, HREL.out.2.2.more (by omega)⟩
            · have g1 : decide ((i : Int) < (O.length : Nat)) = false := decide_eq_false (by omega)
              clear hin
              go_wp2_with fail
              go_meet
              case rel => exact ⟨cg, E, HREL.out.1, HREL.out.2.1, HREL.out.2.2.more (by omega)⟩
      case rest =>
        obtain ⟨cg, E, hJg, hE, hT⟩ := hcut
        have HJG := Lib.hid (And.intro hJg (And.intro hE (hT.more (M := (((L.length : Nat) : Int) + (O.length : Nat) + (((L.length : Nat) : Int) - (L.length : Nat))) * 42) (by omega))))
        clear hJg hE hT
        go_upto_block 4 with fail
        go_cut [] (fun wx => ∃ cg, Ker m cf cg ∧ Two w u v m cf cg 10000 wx)
        case first =>
          go_wp2_with fail
          go_loopw [15] (fun s wr => Loop3 w u v m L O cf s wr) (fun s _ => (intAt s + 1).toNat)
          case atStart =>
            exact ⟨((L.length : Nat) : Int) - 1, L.length, rfl, by omega, Nat.le_refl _, cg, E, HJG.out.1, fun e he => by obtain ⟨p, h1, h2⟩ := HJG.out.2.1 e he; exact ⟨p, h1, .inr h2⟩, fun k h1 h2 => by omega, HJG.out.2.2⟩
          case round =>
            obtain ⟨z, j, rfl, hzj, hj, cg, E, hJg, hE, hEL, hT⟩ := hrel
            have HZ := Lib.hid hzj
            by_cases hj0 : 0 < j
            · obtain ⟨i, rfl⟩ : ∃ i, j = i + 1 := ⟨j - 1, by omega⟩
              obtain rfl : z = (i : Int) := by omega
              clear hzj HZ
              have hin : i < L.length := by omega
              have g1 : decide ((0 : Int) ≤ (i : Int)) = true := decide_eq_true (by omega)
              have hbl := hT.bel
              obtain ⟨bl, off, rfl, hb0, c1, c2, b1, b2⟩ := (HL.out.below hbl).at_ hin
              obtain ⟨p, hp⟩ : ∃ p, L[i] = p := ⟨_, rfl⟩
              rw [hp] at c1 c2 b1 b2
              obtain ⟨x, hx⟩ : ∃ x, p.1 % m = x := ⟨_, rfl⟩
              obtain ⟨y, hy⟩ : ∃ y, p.2 % m = y := ⟨_, rfl⟩
              have hxm : x < m := by rw [← hx]; exact Nat.mod_lt _ hm0
              have hym : y < m := by rw [← hy]; exact Nat.mod_lt _ hm0
              have ex : ((p.1 : Nat) : Int).tmod (m : Int) = (x : Int) := by rw [← hx]; rfl
              have ey : ((p.2 : Nat) : Int).tmod (m : Int) = (y : Int) := by rw [← hy]; rfl
              have hmne : ¬ m = 0 := by omega
              have w1' : IntKind.i64.wrap ((p.1 : Nat) : Int) = (p.1 : Nat) := IntWalk.i64_in _ (by omega)
              have w2' : IntKind.i64.wrap ((p.2 : Nat) : Int) = (p.2 : Nat) := IntWalk.i64_in _ (by omega)
              have HC := (hT.below (Below.refl _ _).drew).joinG (by omega) hu x y hxm hym
              have HJJ := Lib.hid (And.intro hJg (And.intro hE (And.intro hEL (And.intro hp (And.intro hx hy)))))
              clear hJg hE hEL hp hx hy hbl hT
              go_wp2_with fail
              go_still_tail 17, (by kernel_rfl)
              change wpList _ _ _ _ _ wr.drew
              go_wp2_with fail
              refine HC.mono ?_
              rintro e w5 ⟨r, t, rfl, hT5⟩
              obtain ⟨hJ, hE, hEL, hp, hx, hy⟩ := HJJ.out
              have hmem : p ∈ L := by rw [← hp]; exact List.getElem_mem hin
              have hpr : pr m p = (x, y) := by unfold pr; rw [hx, hy]
              have hn2 : ∀ e ∈ (x, y) :: E, ∃ p ∈ L, e = pr m p ∨ e = (pr m p).swap := by
                intro e he
                rcases List.mem_cons.1 he with rfl | he
                · exact ⟨p, hmem, .inl hpr.symm⟩
                · exact hE e he
              have hn3 : ∀ k, i ≤ k → (hk : k < L.length) → pr m L[k] ∈ (x, y) :: E := by
                intro k h1 hk
                by_cases hki : k = i
                · subst hki; rw [hp, hpr]; exact List.mem_cons_self
                · exact List.mem_cons_of_mem _ (hEL k (by omega) hk)
              have HREL := Lib.hid (And.intro (hJ.one hxm hym) (And.intro hn2 (And.intro hn3 (hT5.more (M := (((L.length : Nat) : Int) + (O.length : Nat) + (((L.length : Nat) : Int) - (i : Nat))) * 42) (by omega)))))
              clear hJ hE hEL hp hx hy hT5 HC hn2 hn3 hmem hpr
              go_wp2_with fail
              go_roundw
              case rel => exact ⟨(i : Int) - 1, i, rfl, by omega, by omega, _, _, HREL.out.1, HREL.out.2.1, HREL.out.2.2.1, HREL.out.2.2.2⟩
              case measure =>
                simp only [intAt]
                omega
            · have g1 : decide ((0 : Int) ≤ z) = false := decide_eq_false (by omega)
              have hK : Ker m cf cg := H1.out.1.ker hJg fun R => by
                constructor
                · intro hR e he
                  obtain ⟨p, hpL, h⟩ := hE e he
                  have := hR (pr m p) (List.mem_reverse.2 (List.mem_map.2 ⟨p, hpL, rfl⟩))
                  rcases h with rfl | rfl
                  · exact this
                  · exact this.symm
                · intro hR e he
                  obtain ⟨p, hpL, rfl⟩ := List.mem_map.1 (List.mem_reverse.1 he)
                  obtain ⟨k, hk, rfl⟩ := List.mem_iff_getElem.1 hpL
                  exact hR _ (hEL k (by omega) hk)
              have HREL := Lib.hid (And.intro hK (hT.more (M := 10000) (by omega)))
              clear hJg hE hEL hT hK HZ hzj
              go_wp2_with fail
              go_meet
              case rel => exact ⟨cg, HREL.out.1, HREL.out.2⟩
        case rest =>
          obtain ⟨cg, hK, hT⟩ := hcut
          have HK := Lib.hid hK
          have HT := Lib.hid hT
          clear hK hT
          go_wp2_with fail
          go_loopw [16, 17] (fun s _ wr => ∃ i : Nat, s = .int .i64 (i : Int) ∧ i ≤ m ∧ Two w u v m cf cg (10000 + i * 2000) wr) (fun s _ _ => ((m : Int) - intAt s).toNat)
          case atStart => exact ⟨0, rfl, by omega, by simpa using HT.out⟩
          case round =>
            obtain ⟨i, rfl, hi, hT⟩ := hrel
            by_cases him : i < m
            · have g1 : decide ((i : Int) < (m : Nat)) = true := decide_eq_true (by omega)
              have HTI := Lib.hid hT
              clear hT HT
              rename World => wo
              go_wp2_with fail
              go_loopw [17] (fun s wr => ∃ k : Nat, s = .int .i64 (k : Int) ∧ k ≤ m ∧ Two w u v m cf cg (10000 + i * 2000 + k * 84) wr) (fun s _ => ((m : Int) - intAt s).toNat)
              case atStart => exact ⟨0, rfl, by omega, by simpa using HTI.out⟩
              case round =>
                obtain ⟨k, rfl, hk, hT⟩ := hrel
                by_cases hkm : k < m
                · have g2 : decide ((k : Int) < (m : Nat)) = true := decide_eq_true (by omega)
                  have HF := hT.sameF (by omega) hu i k him hkm
                  obtain ⟨b, hb⟩ : ∃ b, (cf i == cf k) = b := ⟨_, rfl⟩
                  have hb2 : (cg i == cg k) = b := by
                    rw [← hb, Bool.eq_iff_iff, beq_iff_eq, beq_iff_eq]
                    exact (HK.out i k him hkm).symm
                  rw [hb] at HF
                  have HB2 := Lib.hid hb2
                  clear hb hb2 hT
                  go_wp2_with fail
                  refine HF.mono ?_
                  rintro e w6 ⟨rfl, hT6⟩
                  have HG := hT6.sameG (by omega) hu i k him hkm
                  rw [HB2.out] at HG
                  clear hT6 HF
                  go_wp2_with fail
                  refine HG.mono ?_
                  rintro e w7 ⟨rfl, hT7⟩
                  have HREL := Lib.hid (hT7.more (M := 10000 + (i : Int) * 2000 + ((k + 1 : Nat) : Int) * 84) (by omega))
                  have hbb : (b != b) = false := by simp
                  clear hT7 HG
                  go_wp2_with fail
                  go_roundw
                  case rel => exact ⟨k + 1, by go_num, by omega, HREL.out⟩
                  case measure =>
                    simp only [intAt]
                    omega
                · have g2 : decide ((k : Int) < (m : Nat)) = false := decide_eq_false (by omega)
                  have HREL := Lib.hid (hT.more (M := 10000 + ((i + 1 : Nat) : Int) * 2000) (by omega))
                  clear hT
                  go_wp2_with fail
                  go_roundw
                  case rel => exact ⟨i + 1, by go_num, by omega, HREL.out⟩
                  case measure =>
                    simp only [intAt]
                    omega
            · have g1 : decide ((i : Int) < (m : Nat)) = false := decide_eq_false (by omega)
              have hB := hT.bel
              have HS1 := hT.setsF
              have HS2 := hT.setsG
              rw [← HK.out.cnt] at HS2
              have HB := Lib.hid hB
              have HW := awake_any wr
              clear hT hB
              go_wp2_with fail
              refine HS1.mono ?_
              rintro e w6 ⟨rfl, rfl⟩
              go_wp2_with fail
              refine HS2.mono ?_
              rintro e w6 ⟨rfl, rfl⟩
              go_wp2_with fail
              refine HW.mono ?_
              rintro e w7 ⟨rfl, hb7⟩
              have HB7 := Lib.hid (HB.out.trans (hb7.mono HB.out.size))
              clear hb7
              go_wp2_with fail
              go_ret
              exact ⟨rfl, HB7.out⟩
end Go.Proofs.Ytamieophdnnbnaa.Un
