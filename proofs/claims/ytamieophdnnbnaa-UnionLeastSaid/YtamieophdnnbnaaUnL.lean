/- UnionLeast: the walk. -/
import Derived.Test.YtamieophdnnbnaaUnR
import Derived.Deep.QuietTactic
import Derived.BigQuiet
import Derived.StillTailTactics
import Derived.Deep.CutBlock
import Derived.Deep.DeepCutAuto
import Derived.Deep.RegionWith
namespace Go.Proofs.Ytamieophdnnbnaa.Un
open Go.RowKit

/-- The row of what is reached lies beside the forest. -/
def RowR (u : Nat) (g c : Nat) (m : Nat) (R : Nat → Bool) (wr : World) : Prop := wr.ownsRow 0 4 1 (.slice (some ⟨g, 0, none⟩) m c) m (rowB m R) ∧ u ≤ g
theorem RowR.keep {u g c m : Nat} {R : Nat → Bool} {w w' : World} {T : Nat → Prop} (h : RowR u g c m R w) (he : Else T w w') (hT : ∀ k, T k → k < u) : RowR u g c m R w' := by
  refine ⟨⟨h.1.1, ?_⟩, h.2⟩
  rcases h.1.2 with h2 | ⟨g', cap, cur, hv, hg, hh, r⟩
  · exact .inl h2
  · have : g = g' := by injection hv with hv; injection hv with hv; injection hv
    subst this
    exact .inr ⟨g, cap, cur, hv, hg, (he.block g (Array.getElem?_eq_some_iff.1 hh).1 (fun hx => by have := hT g hx; have := h.2; omega)).trans hh, r⟩
theorem RowR.below {u g c m : Nat} {R : Nat → Bool} {w w' : World} (h : RowR u g c m R w) (hb : Below w.heap.size w w') : RowR u g c m R w' :=
  h.keep (T := fun _ => False) (Else.of_below hb) (fun _ h => h.elim)
theorem RowR.set {u g c m : Nat} {R : Nat → Bool} {w : World} (h : RowR u g c m R w) (i : Nat) (v : Bool) : RowR u g c m (updB R i v) (w.setCell ⟨g, i, none⟩ (.bool v)) := by
  refine ⟨?_, h.2⟩
  rw [← rowB_set]
  exact (h.1.stored i _).1
theorem RowR.lt {u g c m : Nat} {R : Nat → Bool} {w : World} (h : RowR u g c m R w) : g < w.heap.size := (h.1.lt g rfl).2
def Lp3 (w : World) (u m : Nat) (L : List (Nat × Nat)) (cf : Nat → Nat) (i g : Nat) (s : Value) (wr : World) : Prop :=
  ∃ r : Nat, s = .int .i64 (r : Int) ∧ r ≤ m ∧ ∃ R : Nat → Bool, One w u m cf (2000 + i * 1000) wr ∧ RowR u g m m R wr ∧ Rnd m (L.map (pr1 m)) r R ∧ R i = true ∧ ∀ k, R k = true → cf k = cf i
def Lp4 (w : World) (u m : Nat) (L : List (Nat × Nat)) (cf : Nat → Nat) (i g : Nat) (R0 : Nat → Bool) (s : Value) (wr : World) : Prop :=
  ∃ k : Nat, s = .int .i64 (k : Int) ∧ k ≤ L.length ∧ ∃ R : Nat → Bool, One w u m cf (2000 + i * 1000) wr ∧ RowR u g m m R wr ∧ Mid m (L.map (pr1 m)) k R0 R ∧ R i = true ∧ ∀ k, R k = true → cf k = cf i
def End3 (w : World) (u m : Nat) (_L : List (Nat × Nat)) (cf : Nat → Nat) (i g : Nat) (wr : World) : Prop :=
  ∃ R : Nat → Bool, One w u m cf (2000 + i * 1000) wr ∧ RowR u g m m R wr ∧ ∀ k, k < m → (cf i == cf k) = R k
theorem bel_drewN (w : World) (n : Nat) : Below w.heap.size w (w.drewN n) := ⟨rfl, rfl, rfl, Nat.le_refl _, fun _ _ => rfl⟩
theorem boolInfo : (Try.prog.info? 4).map (fun i => (i.zero, i.size, i.bytes)) = some (some (.bool false), 1, 1) := by kernel_rfl
theorem info_parts3 {o : Option TypeInfo} {z : Option Value} {a b : Nat} (h : o.map (fun i => (i.zero, i.size, i.bytes)) = some (z, a, b)) : ∃ i, o = some i ∧ i.zero = z ∧ i.size = a ∧ i.bytes = b := by
  cases o with
  | none => cases h
  | some i => simp only [Option.map_some, Option.some.injEq, Prod.mk.injEq] at h; exact ⟨i, rfl, h.1, h.2.1, h.2.2⟩
theorem made_bools (m : Nat) : madeCells #[.bool false] m = (rowB m fun _ => false).toArray := by
  apply Array.ext
  · simp [madeCells, rowB]
  · intro i h1 h2
    simp [madeCells, rowB, Nat.mod_one]
theorem make_bools (w : World) (m : Nat) (hm : m ≤ 20) : (Instr.makeSlice 48 (.int .i64 (m : Nat)) (.int .i64 (m : Nat))).run Try.prog w = .ok (.slice (some ⟨w.heap.size, 0, none⟩) m m) (w.alloc (.cells (rowB m fun _ => false).toArray 4)) := by
  obtain ⟨i0, hi0, hz0, hz1, hz2⟩ := info_parts3 boolInfo
  have h := run_make (P := Try.prog) w 48 4 i0 (.bool false) Try.underlying48 hi0 hz0 .i64 .i64 (m : Int) (m : Int) (by omega) (by omega) (by rw [hz2]; omega) (by omega)
  rw [hz1, Nat.mul_one, Int.toNat_natCast] at h
  rw [h]
  have e : (Value.bool false).cells = #[.bool false] := rfl
  rw [e, made_bools]
theorem row_made {u : Nat} (w : World) (m : Nat) (hm : m ≤ 20) (hu : u ≤ w.heap.size) : RowR u w.heap.size m m (fun _ => false) (w.alloc (.cells (rowB m fun _ => false).toArray 4)) := by
  refine ⟨⟨by rw [rowB_len]; omega, .inr ⟨w.heap.size, m, _, rfl, Nat.zero_le _, heap_alloc_new w _, Nat.le_refl _, by unfold maxLen; omega, by simp [rowB_len], ?_⟩⟩, hu⟩
  rw [List.take_of_length_le (by simp [rowB_len])]
set_option maxRecDepth 100000 in
set_option maxHeartbeats 4000000 in
theorem least_any (w : World) (n0 : Nat) (_hn0 : n0 < 256) (vl : Value) (L : List (Nat × Nat)) (hl : RdP w vl L) :
    Calls Try.prog 5 #[.int .u8 (n0 : Nat), vl] w fun e w' => e = .returned (.bool true) ∧ Below w.heap.size w w' := by
  obtain ⟨Al, cl, rfl⟩ := hl.slice
  have HL := Lib.hid hl
  clear hl
  by_cases h1 : 40 < L.length
  · have f1 : decide ((40 : Int) < (L.length : Nat)) = true := decide_eq_true (by omega)
    have HW := awake_any w
    go_enter Try.func5, Try.ntmps5
    go_wp2_with fail
    refine HW.mono ?_
    rintro e w1 ⟨rfl, hB⟩
    have HB := Lib.hid hB
    clear hB HW
    go_wp2_with fail
    go_ret
    exact ⟨rfl, HB.out⟩
  have f1 : decide ((40 : Int) < (L.length : Nat)) = false := decide_eq_false (by omega)
  obtain ⟨a, ha⟩ : ∃ a, n0 % 20 = a := ⟨_, rfl⟩
  have ha20 : a < 20 := by omega
  have f3 : (n0 : Int).tmod 20 = (a : Int) := by rw [← ha]; rfl
  obtain ⟨m, hm⟩ : ∃ m, 1 + a = m := ⟨_, rfl⟩
  have em : (1 : Int) + (a : Int) = (m : Int) := by omega
  have HN := new_in w m (by omega)
  go_enter Try.func5, Try.ntmps5
  go_wp2_with fail
  refine HN.mono ?_
  rintro e w1 ⟨rfl, hU1, hB1⟩
  have hT := One.start hU1 hB1
  have hu := hB1.size
  obtain ⟨u, hu1⟩ : ∃ u, w1.heap.size = u := ⟨_, rfl⟩
  rw [hu1] at hT hu
  have hul : w.heap.size < u := by
    obtain ⟨_, _, _, _, _, _, _, h1, _⟩ := hU1
    rw [← hu1]; exact h1.lt
  have HT := Lib.hid hT
  clear hT hU1 hB1 HN hu1
  have hm0 : 0 < m := by omega
  have hm20 : m ≤ 20 := by omega
  have hL40 : L.length ≤ 40 := by omega
  clear ha hm em f3 ha20
  go_wp2_with fail
  go_loopw [8] (fun s wr => ∃ i : Nat, s = .int .i64 (i : Int) ∧ i ≤ L.length ∧ ∃ cf, Joined m ((L.take i).map (pr1 m)).reverse cf ∧ One w u m cf (i * 42) wr) (fun s _ => ((L.length : Int) - intAt s).toNat)
  case atStart => exact ⟨0, rfl, by omega, fun j => j, by simpa using Joined.none m, by simpa using HT.out⟩
  case round =>
    obtain ⟨i, rfl, hi, cf, hJ, hT⟩ := hrel
    by_cases hin : i < L.length
    · have g1 : decide ((i : Int) < (L.length : Nat)) = true := decide_eq_true (by omega)
      have hbl := hT.bel
      obtain ⟨bl, off, rfl, hb0, c1, c2, b1, b2⟩ := (HL.out.below hbl).at_ hin
      obtain ⟨p, hp⟩ : ∃ p, L[i] = p := ⟨_, rfl⟩
      rw [hp] at c1 c2 b1 b2
      obtain ⟨x, hx⟩ : ∃ x, p.1 % m = x := ⟨_, rfl⟩
      obtain ⟨y, hy⟩ : ∃ y, p.2 % m = y := ⟨_, rfl⟩
      have hxm : x < m := by rw [← hx]; exact Nat.mod_lt _ hm0
      have hym : y < m := by rw [← hy]; exact Nat.mod_lt _ hm0
      have ex : ((p.1 : Nat) : Int).tmod (m : Int) = (x : Int) := by rw [← hx]; rfl
      have ey : ((p.2 : Nat) : Int).tmod (m : Int) = (y : Int) := by rw [← hy]; rfl
      have hmne : ¬ m = 0 := by omega
      have w1' : IntKind.i64.wrap ((p.1 : Nat) : Int) = (p.1 : Nat) := IntWalk.i64_in _ (by omega)
      have w2' : IntKind.i64.wrap ((p.2 : Nat) : Int) = (p.2 : Nat) := IntWalk.i64_in _ (by omega)
      have HC := (hT.below (Below.refl _ _).drew).join (by omega) x y hxm hym
      have HJJ := Lib.hid (And.intro hJ (And.intro hp (And.intro hx hy)))
      clear hJ hp hx hy hbl hT
      go_wp2_with fail
      go_still_tail 17, (by kernel_rfl)
      change wpList _ _ _ _ _ wr.drew
      go_wp2_with fail
      refine HC.mono ?_
      rintro e w5 ⟨r, t, rfl, hT5, _⟩
      obtain ⟨hJ, hp, hx, hy⟩ := HJJ.out
      have hnext : Joined m ((L.take (i + 1)).map (pr1 m)).reverse (paint cf x y) := by
        rw [List.take_succ_eq_append_getElem hin, List.map_append, List.reverse_append, hp]
        show Joined m (pr1 m p :: _) _
        unfold pr1
        rw [hx, hy]
        exact hJ.one hxm hym
      have HREL := Lib.hid (And.intro hnext (hT5.more (M := ((i + 1 : Nat) : Int) * 42) (by omega)))
      clear hnext hJ hp hx hy hT5 HC
      go_wp2_with fail
      go_roundw
      case rel => exact ⟨i + 1, by go_num, by omega, _, HREL.out.1, HREL.out.2⟩
      case measure =>
        simp only [intAt]
        omega
    · obtain rfl : i = L.length := by omega
      have g1 : decide (((L.length : Nat) : Int) < (L.length : Nat)) = false := decide_eq_false (by omega)
      have hJ' : Joined m (L.map (pr1 m)).reverse cf := by rw [← List.take_length (l := L)]; exact hJ
      have H1 := Lib.hid (And.intro hJ' (hT.more (M := 2000) (by omega)))
      clear hJ hJ' hT HT
      go_wp2_with fail
      go_loopw [9, 10, 11, 12, 13, 14, 15] (fun s _ _ _ _ _ _ wr => ∃ i : Nat, s = .int .i64 (i : Int) ∧ i ≤ m ∧ One w u m cf (2000 + i * 1000) wr) (fun s _ _ _ _ _ _ _ => ((m : Int) - intAt s).toNat)
      case atStart => exact ⟨0, rfl, by omega, by simpa using H1.out.2⟩
      case round =>
        obtain ⟨i, rfl, hi, hT⟩ := hrel
        by_cases him : i < m
        · have g1 : decide ((i : Int) < (m : Nat)) = true := decide_eq_true (by omega)
          have HT := Lib.hid hT
          clear hT
          rename World => wo
          have hmk := make_bools wo m hm20
          have hrow0 : RowR u wo.heap.size m m (fun _ => false) (wo.alloc (.cells (rowB m fun _ => false).toArray 4)) := row_made wo m hm20 HT.out.ule
          have hb1 : Below wo.heap.size wo (wo.alloc (.cells (rowB m fun _ => false).toArray 4)) := (Below.refl _ _).alloc (Nat.le_refl _) _
          have hT1 := HT.out.below hb1
          have hrow1 := hrow0.set i true
          have hT2 := hT1.keep (Else.set (S := fun k => u ≤ k) _ (p := ⟨wo.heap.size, i, none⟩) HT.out.ule (.bool true)) (fun k hk => hk) hu
          have q0 : (wo.alloc (.cells (rowB m fun _ => false).toArray 4)).cell? ⟨wo.heap.size, i, none⟩ = some (.bool false) := (hrow0.1.cellAt i (by omega)).trans (rowB_get him)
          have q1 := hrow0.1.frozenAt i
          obtain ⟨V0, hV0⟩ : ∃ V0, wo.alloc (.cells (rowB m fun _ => false).toArray 4) = V0 := ⟨_, rfl⟩
          rw [hV0] at hmk q0 q1 hrow1 hT2
          have hgl : wo.heap.size < V0.heap.size := by rw [← hV0]; simp
          have HB := Lib.hid (And.intro hT2 hrow1)
          clear hrow0 hb1 hT1 hrow1 hT2 hV0
          go_upto_region 16 with fail
          refine wp_world (fun V => One w u m cf (2000 + i * 1000) V ∧ RowR u wo.heap.size m m (updB (fun _ => false) i true) V) HB.out ?_
          rintro V1 ⟨hT, hrow⟩
          have HB1 := Lib.hid (And.intro hT hrow)
          clear HB hT hrow hmk q0 q1 hgl
          obtain ⟨g, hg⟩ : ∃ g, wo.heap.size = g := ⟨_, rfl⟩
          rw [hg] at HB1
          rw [hg]
          clear hg HT
          go_upto_block 4 with fail
          go_cut [11, 12, 13, 14] (fun _ _ _ _ wx => End3 w u m L cf i g wx)
          case first =>
            rename World => wo2
            go_wp2_with fail
            go_loopw [11, 12, 13, 14] (fun s _ _ _ wr => Lp3 w u m L cf i g s wr) (fun s _ _ _ _ => ((m : Int) - intAt s).toNat)
            case atStart => exact ⟨0, rfl, by omega, _, HB1.out.1, HB1.out.2, .inr (cB_pos him (by simp [updB])), by simp [updB], fun k hk => by
              unfold updB at hk
              split at hk
              · rename_i e; rw [e]
              · cases hk⟩
            case round =>
              obtain ⟨r, rfl, hr, R, hT, hrow, hrnd, hRi, hso⟩ := hrel
              by_cases hrm : r < m
              · have g2 : decide ((r : Int) < (m : Nat)) = true := decide_eq_true (by omega)
                have HR := Lib.hid (And.intro hT (And.intro hrow (And.intro hrnd (And.intro hRi hso))))
                clear hT hrow hrnd hRi hso HB1
                rename World => wo3
                go_wp2_with fail
                go_loopw [12, 13, 14] (fun s _ _ wr => Lp4 w u m L cf i g R s wr) (fun s _ _ _ => ((L.length : Int) - intAt s).toNat)
                case atStart => exact ⟨0, rfl, by omega, R, HR.out.1, HR.out.2.1, .inl ⟨rfl, fun e he => (by simp at he)⟩, HR.out.2.2.2.1, HR.out.2.2.2.2⟩
                case round =>
                  obtain ⟨k, rfl, hk, R1, hT, hrow, hmid, hRi, hso⟩ := hrel
                  by_cases hkL : k < L.length
                  · have g3 : decide ((k : Int) < (L.length : Nat)) = true := decide_eq_true (by omega)
                    have hbl := hT.bel
                    obtain ⟨bl, off, rfl, hb0, c1, c2, b1, b2⟩ := (HL.out.below hbl).at_ hkL
                    obtain ⟨p, hp⟩ : ∃ p, L[k] = p := ⟨_, rfl⟩
                    rw [hp] at c1 c2 b1 b2
                    obtain ⟨x, hx⟩ : ∃ x, p.1 % m = x := ⟨_, rfl⟩
                    obtain ⟨y, hy⟩ : ∃ y, p.2 % m = y := ⟨_, rfl⟩
                    have hxm : x < m := by rw [← hx]; exact Nat.mod_lt _ hm0
                    have hym : y < m := by rw [← hy]; exact Nat.mod_lt _ hm0
                    have ex : ((p.1 : Nat) : Int).tmod (m : Int) = (x : Int) := by rw [← hx]; rfl
                    have ey : ((p.2 : Nat) : Int).tmod (m : Int) = (y : Int) := by rw [← hy]; rfl
                    have hmne : ¬ m = 0 := by omega
                    have w1' : IntKind.i64.wrap ((p.1 : Nat) : Int) = (p.1 : Nat) := IntWalk.i64_in _ (by omega)
                    have w2' : IntKind.i64.wrap ((p.2 : Nat) : Int) = (p.2 : Nat) := IntWalk.i64_in _ (by omega)
                    have hEk : (L.map (pr1 m))[k]'(by rw [List.length_map]; exact hkL) = (x, y) := by rw [List.getElem_map, hp]; unfold pr1; rw [hx, hy]
                    have hcol : cf x = cf y := H1.out.1.holds (x, y) (List.mem_reverse.2 (by rw [← hEk]; exact List.getElem_mem _))
                    have hstep := hmid.step (k := k) (by rw [List.length_map]; exact hkL) (by rw [hEk]; exact hxm) (by rw [hEk]; exact hym)
                    rw [hEk] at hstep
                    have hso2 := stp_sound hcol hso
                    have hRi2 := stp_mono R1 x y i hRi
                    obtain ⟨bx, hbx⟩ : ∃ b, R1 x = b := ⟨_, rfl⟩
                    obtain ⟨bY, hby⟩ : ∃ b, R1 y = b := ⟨_, rfl⟩
                    have r1 : wr.cell? ⟨g, x, none⟩ = some (.bool bx) := by rw [← hbx]; exact (hrow.1.cellAt x (by omega)).trans (rowB_get hxm)
                    have r2 : wr.cell? ⟨g, y, none⟩ = some (.bool bY) := by rw [← hby]; exact (hrow.1.cellAt y (by omega)).trans (rowB_get hym)
                    have HS := Lib.hid (And.intro hT (And.intro hrow (And.intro hstep (And.intro hRi2 (And.intro hso2 (And.intro hbx hby))))))
                    clear hT hrow hmid hRi hso hp hx hy hbl hEk hcol hstep hso2 hRi2 hbx hby
                    go_wp2_with fail
                    go_quiet (fail)
                    cases bx with
                    | true =>
                      go_upto_region 24 with fail
                      refine wp_world (fun V => One w u m cf (2000 + i * 1000) V ∧ RowR u g m m R1 V) ⟨HS.out.1.below (bel_drewN _ _), HS.out.2.1.below (bel_drewN _ _)⟩ ?_
                      rintro V ⟨hT, hrow⟩
                      clear r1 r2 c1 c2
                      have q1 : V.cell? ⟨g, x, none⟩ = some (.bool (R1 x)) := (hrow.1.cellAt x (by omega)).trans (rowB_get hxm)
                      have hr2 := hrow.set x true
                      have q2 : (V.setCell ⟨g, x, none⟩ (.bool true)).cell? ⟨g, y, none⟩ = some (.bool (updB R1 x true y)) := (hr2.1.cellAt y (by omega)).trans (rowB_get hym)
                      have z1 : V.frozen? ⟨g, x, none⟩ = false := hrow.1.frozenAt x
                      have z2 : V.frozen? ⟨g, y, none⟩ = false := hrow.1.frozenAt y
                      have z3 : (V.setCell ⟨g, x, none⟩ (.bool true)).frozen? ⟨g, y, none⟩ = false := hr2.1.frozenAt y
                      have hr3 := hr2.set y true
                      have hgl := hrow.lt
                      have hug := hrow.2
                      have hT3 : One w u m cf (2000 + i * 1000) ((V.setCell ⟨g, x, none⟩ (.bool true)).setCell ⟨g, y, none⟩ (.bool true)) := (hT.keep (Else.set (S := fun k => u ≤ k) V (p := ⟨g, x, none⟩) hug _) (fun k hk => hk) hu).keep (Else.set (S := fun k => u ≤ k) _ (p := ⟨g, y, none⟩) hug _) (fun k hk => hk) hu
                      have hst : stp R1 x y = updB (updB R1 x true) y true := by unfold stp; rw [if_pos]; rw [HS.out.2.2.2.2.2.1]; rfl
                      rw [← hst] at hr3
                      have HREL := Lib.hid (And.intro hT3 hr3)
                      clear hT hrow hr2 hr3 hT3 hst
                      go_wp2_with fail
                      go_roundw
                      case rel => exact ⟨k + 1, by go_num, by omega, _, HREL.out.1, HREL.out.2, HS.out.2.2.1, HS.out.2.2.2.1, HS.out.2.2.2.2.1⟩
                      case measure =>
                        simp only [intAt]
                        omega
                    | false =>
                      cases bY with
                      | true =>
                        go_upto_region 24 with fail
                        refine wp_world (fun V => One w u m cf (2000 + i * 1000) V ∧ RowR u g m m R1 V) ⟨HS.out.1.below (bel_drewN _ _), HS.out.2.1.below (bel_drewN _ _)⟩ ?_
                        rintro V ⟨hT, hrow⟩
                        clear r1 r2 c1 c2
                        have q1 : V.cell? ⟨g, x, none⟩ = some (.bool (R1 x)) := (hrow.1.cellAt x (by omega)).trans (rowB_get hxm)
                        have hr2 := hrow.set x true
                        have q2 : (V.setCell ⟨g, x, none⟩ (.bool true)).cell? ⟨g, y, none⟩ = some (.bool (updB R1 x true y)) := (hr2.1.cellAt y (by omega)).trans (rowB_get hym)
                        have z1 : V.frozen? ⟨g, x, none⟩ = false := hrow.1.frozenAt x
                        have z2 : V.frozen? ⟨g, y, none⟩ = false := hrow.1.frozenAt y
                        have z3 : (V.setCell ⟨g, x, none⟩ (.bool true)).frozen? ⟨g, y, none⟩ = false := hr2.1.frozenAt y
                        have hr3 := hr2.set y true
                        have hgl := hrow.lt
                        have hug := hrow.2
                        have hT3 : One w u m cf (2000 + i * 1000) ((V.setCell ⟨g, x, none⟩ (.bool true)).setCell ⟨g, y, none⟩ (.bool true)) := (hT.keep (Else.set (S := fun k => u ≤ k) V (p := ⟨g, x, none⟩) hug _) (fun k hk => hk) hu).keep (Else.set (S := fun k => u ≤ k) _ (p := ⟨g, y, none⟩) hug _) (fun k hk => hk) hu
                        have hst : stp R1 x y = updB (updB R1 x true) y true := by unfold stp; rw [if_pos]; rw [HS.out.2.2.2.2.2.2, Bool.or_true]
                        rw [← hst] at hr3
                        have HREL := Lib.hid (And.intro hT3 hr3)
                        clear hT hrow hr2 hr3 hT3 hst
                        go_wp2_with fail
                        go_roundw
                        case rel => exact ⟨k + 1, by go_num, by omega, _, HREL.out.1, HREL.out.2, HS.out.2.2.1, HS.out.2.2.2.1, HS.out.2.2.2.2.1⟩
                        case measure =>
                          simp only [intAt]
                          omega
                      | false =>
                        have hst : stp R1 x y = R1 := stp_same (by rw [HS.out.2.2.2.2.2.1, HS.out.2.2.2.2.2.2])
                        have HREL := Lib.hid (And.intro (HS.out.1.below (bel_drewN _ nq)) (hst.symm ▸ HS.out.2.1.below (bel_drewN _ nq)))
                        clear hst
                        go_wp2_with fail
                        go_roundw
                        case rel => exact ⟨k + 1, by go_num, by omega, _, HREL.out.1, HREL.out.2, HS.out.2.2.1, HS.out.2.2.2.1, HS.out.2.2.2.2.1⟩
                        case measure =>
                          simp only [intAt]
                          omega
                  · have g3 : decide ((k : Int) < (L.length : Nat)) = false := decide_eq_false (by omega)
                    obtain rfl : k = L.length := by omega
                    have hd := Mid.done (by rw [List.length_map]; exact hmid) HR.out.2.2.1
                    have HREL := Lib.hid (And.intro hT (And.intro hrow (And.intro hd (And.intro hRi hso))))
                    clear hT hrow hmid hRi hso hd
                    go_wp2_with fail
                    go_roundw
                    case rel => exact ⟨r + 1, by go_num, by omega, _, HREL.out.1, HREL.out.2.1, HREL.out.2.2.1, HREL.out.2.2.2.1, HREL.out.2.2.2.2⟩
                    case measure =>
                      simp only [intAt]
                      omega
              · have g2 : decide ((r : Int) < (m : Nat)) = false := decide_eq_false (by omega)
                obtain rfl : r = m := by omega
                have hfin := reached H1.out.1 him hRi (fun e he => hrnd.shut e (List.mem_reverse.1 he)) hso
                have HREL := Lib.hid (And.intro hT (And.intro hrow hfin))
                clear hT hrow hrnd hRi hso hfin
                go_wp2_with fail
                go_meet
                case rel => exact ⟨R, HREL.out.1, HREL.out.2.1, HREL.out.2.2⟩
          case rest =>
            obtain ⟨R, hT, hrow, hfin⟩ := hcut
            have HR := Lib.hid (And.intro hT (And.intro hrow hfin))
            clear hT hrow hfin HB1
            go_wp2_with fail
            go_loopw [15] (fun s wr => ∃ k : Nat, s = .int .i64 (k : Int) ∧ k ≤ m ∧ One w u m cf (2000 + i * 1000 + k * 42) wr ∧ RowR u g m m R wr) (fun s _ => ((m : Int) - intAt s).toNat)
            case atStart => exact ⟨0, rfl, by omega, by simpa using HR.out.1, HR.out.2.1⟩
            case round =>
              obtain ⟨k, rfl, hk, hT, hrow⟩ := hrel
              by_cases hkm : k < m
              · have g2 : decide ((k : Int) < (m : Nat)) = true := decide_eq_true (by omega)
                have HC := (hT.below (Below.refl _ _).drew).same (by omega) i k him hkm
                rw [HR.out.2.2 k hkm] at HC
                have r1 : wr.cell? ⟨g, k, none⟩ = some (.bool (R k)) := (hrow.1.cellAt k (by omega)).trans (rowB_get hkm)
                have HROW := Lib.hid hrow
                obtain ⟨bk, hbk⟩ : ∃ b, R k = b := ⟨_, rfl⟩
                rw [hbk] at HC r1
                have HBK := Lib.hid hbk
                have hbb : (bk != bk) = false := by simp
                clear hT hrow hbk
                go_wp2_with fail
                go_region_with (go_at_call 20; refine HC.mono ?_; rintro e w5 ⟨rfl, hT5, hE5⟩; have hrow5 := (HROW.out.below (Below.refl _ _).drew).keep hE5 (fun k hk => hk.2); have r5 : w5.cell? ⟨g, k, none⟩ = some (.bool bk) := (hrow5.1.cellAt k (by omega)).trans (by rw [rowB_get hkm, HBK.out]); have HF := Lib.hid (And.intro hT5 hrow5); clear hT5 hE5 hrow5)
                all_goals
                  go_wp2_with fail
                  go_roundw
                  case rel => exact ⟨k + 1, by go_num, by omega, HF.out.1.more (by omega), HF.out.2⟩
                  case measure =>
                    simp only [intAt]
                    omega
              · have g2 : decide ((k : Int) < (m : Nat)) = false := decide_eq_false (by omega)
                have HREL := Lib.hid (hT.more (M := 2000 + ((i + 1 : Nat) : Int) * 1000) (by omega))
                clear hT hrow
                go_wp2_with fail
                go_roundw
                case rel => exact ⟨i + 1, by go_num, by omega, HREL.out⟩
                case measure =>
                  simp only [intAt]
                  omega
        · have g1 : decide ((i : Int) < (m : Nat)) = false := decide_eq_false (by omega)
          have hB := hT.bel
          have HB := Lib.hid hB
          have HW := awake_any wr
          clear hT hB
          go_wp2_with fail
          refine HW.mono ?_
          rintro e w7 ⟨rfl, hb7⟩
          have HB7 := Lib.hid (HB.out.trans (hb7.mono HB.out.size))
          clear hb7
          go_wp2_with fail
          go_ret
          exact ⟨rfl, HB7.out⟩
end Go.Proofs.Ytamieophdnnbnaa.Un
