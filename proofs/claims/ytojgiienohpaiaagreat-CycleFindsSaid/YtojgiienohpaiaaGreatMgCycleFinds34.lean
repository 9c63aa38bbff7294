/- Texts of one proof, one behind the other. -/
import Derived.Test.YtojgiienohpaiaaGreatMgCycleFinds33
import Derived.Deep.CutBlock
import Derived.Test.YtojgiienohpaiaaGreatMgCycleFinds25
namespace Go.Proofs.YtojgiienohpaiaaGreat
open Go.RowKit
open Un (rowI rowI_get own_shape paint)
set_option maxRecDepth 100000
def BadAt (G : List Gn) (c : Nat → Nat) (x y : Nat) : Prop := ∃ p q, G[x]? = some p ∧ G[y]? = some q ∧ c x = c y ∧ p.1 ≠ 1 ∧ q.1 ≠ 1 ∧ ¬ Fit p q
def RClash (G : List Gn) (c : Nat → Nat) : Prop := ∃ x y, y < x ∧ BadAt G c x y
theorem two_newb (w : World) (a b : Obj) : ((w.alloc a).alloc b).drew.heap[w.heap.size]? = some a ∧ ((w.alloc a).alloc b).drew.heap[w.heap.size + 1]? = some b ∧ Below w.heap.size w ((w.alloc a).alloc b).drew := by
  refine ⟨(Below.heap_alloc _ _ _ (by simp)).trans (heap_alloc_new w _), ?_, (((Below.refl _ _).alloc (Nat.le_refl _) _).alloc (by simp) _).drew⟩
  have := heap_alloc_new (w.alloc a) b
  rwa [World.size_alloc] at this
set_option maxHeartbeats 8000000 in
theorem rclash_any (w : World) (M : List Rm) (vm vs : Value) (c : Nat → Nat) (B : Nat) (hM : Rd w 4 vm M.length (M.flatMap rmC)) (hN : ∀ x ∈ M, x.2.2.1 = x.1.2.2.2.2.length) (hs : w.ownsRow B 3 1 vs M.length (rowI M.length c)) (hl : M.length ≤ 1000000) (h0 : 0 < M.length) :
    Calls Tryz.prog 11 #[.agg #[vm, vs]] w fun e w' => ∃ b : Bool, e = .returned (.bool b) ∧ (b = true ↔ RClash (gM M) c) ∧ Below w.heap.size w w' := by
  obtain ⟨A, c0, rfl⟩ := hM.form
  obtain ⟨q, hq⟩ : ∃ q, M.length = q := ⟨_, rfl⟩
  rw [hq] at hl hs h0 ⊢
  obtain ⟨g, cv, rfl, _, hgl⟩ := own_shape hs (by omega)
  obtain ⟨b1, o1, cap1, hv1, _, _, hlt1, hc1⟩ := hM.2.resolve_left (by rintro ⟨h, _⟩; omega)
  injection hv1 with hA1 _ hcc1
  subst hA1; subst hcc1
  obtain ⟨W0, hW0⟩ : ∃ W0, w.alloc (.cells #[.slice (some ⟨b1, o1, none⟩) q c0, .slice (some ⟨g, 0, none⟩) q cv] 33) = W0 := ⟨_, rfl⟩
  have hb0 : Below w.heap.size w W0 := by rw [← hW0]; exact (Below.refl _ _).alloc (Nat.le_refl _) _
  have hx0 : W0.heap[w.heap.size]? = some (Obj.cells #[.slice (some ⟨b1, o1, none⟩) q c0, .slice (some ⟨g, 0, none⟩) q cv] 33) := by rw [← hW0]; exact heap_alloc_new w _
  have hl0 : w.heap.size < W0.heap.size := (Array.getElem?_eq_some_iff.1 hx0).1
  have x0 : W0.cell? ⟨w.heap.size, 0, none⟩ = some (.slice (some ⟨b1, o1, none⟩) q c0) := cell_of_row W0 _ 0 _ _ (0, 0) hx0
  have x1 : W0.cell? ⟨w.heap.size, 1, none⟩ = some (.slice (some ⟨g, 0, none⟩) q cv) := cell_of_row W0 _ 1 _ _ (0, 0) hx0
  -- what each later world reads
  have hrd : ∀ W, Below W0.heap.size W0 W → ∀ j, j < q → ∃ (k n : Int) (U P : Sl) (p : Gn), (gM M)[j]? = some p ∧ p.1 = k ∧ p.2.2.2.length = P.2.1 ∧ W.cell? ⟨b1, o1 + j * 4, none⟩ = some (.int .i64 k) ∧ W.cell? ⟨b1, o1 + j * 4 + 1, none⟩ = some (.int .i64 n) ∧ W.cell? ⟨b1, o1 + j * 4 + 2, none⟩ = some (slv U) ∧ W.cell? ⟨b1, o1 + j * 4 + 3, none⟩ = some (slv P) ∧ W.cell? ⟨g, j, none⟩ = some (.int .i64 (c j : Nat)) := by
    intro W hW j hj
    have hBT := hb0.trans (hW.mono (Nat.le_of_lt hl0))
    have hjM : j < M.length := by omega
    obtain ⟨p0, p1, p2, p3⟩ := rmC_at M j hjM
    refine ⟨_, _, _, _, rG M[j].1, by simp [gM, hjM], rfl, (hN _ (List.getElem_mem hjM)).symm, (hBT.cell (p := ⟨b1, o1 + j * 4, none⟩) hlt1).trans (hc1 _ _ p0), (hBT.cell (p := ⟨b1, o1 + j * 4 + 1, none⟩) hlt1).trans (hc1 (j * 4 + 1) _ p1), (hBT.cell (p := ⟨b1, o1 + j * 4 + 2, none⟩) hlt1).trans (hc1 (j * 4 + 2) _ p2), (hBT.cell (p := ⟨b1, o1 + j * 4 + 3, none⟩) hlt1).trans (hc1 (j * 4 + 3) _ p3), (hBT.cell (p := ⟨g, j, none⟩) hgl).trans ((hs.cellAt j (by omega)).trans (rowI_get hj))⟩
  have hgm : (gM M).length = q := by simp [gM, hq]
  have HM := Lib.hid (And.intro hgm hrd)
  have HB0 := Lib.hid hb0
  clear hM hN hs hx0 hb0 hq hgm hrd hc1 h0
  go_enter Tryz.func11, Tryz.ntmps11
  go_wp2_with fail
  go_loopw [3, 4, 5, 6] (fun t _ _ _ wr => ∃ i : Nat, i ≤ q ∧ t = .int .i64 i ∧ (∀ x y, x < i → y < x → ¬ BadAt (gM M) c x y) ∧ Below W0.heap.size W0 wr) (fun t _ _ _ _ => q - (intOf t).toNat)
  case atStart => exact ⟨0, Nat.zero_le _, rfl, fun x y h => absurd h (Nat.not_lt_zero _), Below.refl _ _⟩
  case round =>
    obtain ⟨i, hi, rfl, hia, hb⟩ := hrel
    have HI := Lib.hid (And.intro hia hb)
    clear hia hb
    have y0 : wr.cell? ⟨w.heap.size, 0, none⟩ = some (.slice (some ⟨b1, o1, none⟩) q c0) := (HI.out.2.cell (p := ⟨w.heap.size, 0, none⟩) hl0).trans x0
    by_cases hiq : i < q
    · go_wp2_with fail
      go_loopw [4, 5, 6] (fun t _ _ wx => ∃ k : Nat, k ≤ i ∧ t = .int .i64 k ∧ (∀ y, y < k → ¬ BadAt (gM M) c i y) ∧ Below W0.heap.size W0 wx) (fun t _ _ _ => i - (intOf t).toNat)
      case atStart => exact ⟨0, Nat.zero_le _, rfl, fun y h => absurd h (Nat.not_lt_zero _), HI.out.2⟩
      case round =>
        obtain ⟨k, hk, rfl, hka, hb⟩ := hrel
        have HK := Lib.hid (And.intro hka hb)
        clear hka hb y0
        by_cases hki : k < i
        · obtain ⟨ki, ni, ⟨u1, u2, u3⟩, ⟨v1, v2, v3⟩, p, hp, hpk, hpl, a0, a1, a2, a3, a4⟩ := HM.out.2 wr HK.out.2 i hiq
          obtain ⟨kj, nj, ⟨u4, u5, u6⟩, ⟨v4, v5, v6⟩, p', hp', hpk', hpl', e0, e1, e2, e3, e4⟩ := HM.out.2 wr HK.out.2 k (by omega)
          dsimp only [slv] at a2 a3 e2 e3 hpl hpl'
          have y0 : wr.cell? ⟨w.heap.size, 0, none⟩ = some (.slice (some ⟨b1, o1, none⟩) q c0) := (HK.out.2.cell (p := ⟨w.heap.size, 0, none⟩) hl0).trans x0
          have hkq : k < q := by omega
          have hkl : w.heap.size < wr.heap.size := Nat.lt_of_lt_of_le hl0 HK.out.2.size
          have hgl1 : g < wr.heap.size := by omega
          have hbl1 : b1 < wr.heap.size := by omega
          have HP := Lib.hid (And.intro hp (And.intro hp' (And.intro hpk (And.intro hpk' (And.intro hpl hpl')))))
          clear hp hp' hpk hpk' hpl hpl'
          go_upto_region 7 with fail
          go_cut [5, 6] from 14 to 69 (fun s5 s6 wx => ∃ gx gy : Nat, s5 = .pointer (some ⟨gx, 0, none⟩) ∧ s6 = .pointer (some ⟨gy, 0, none⟩) ∧ wx.heap[gx]? = some (Obj.cells #[.int .i64 ki, .int .i64 ni, .slice u1 u2 u3, .slice v1 v2 v3] 73) ∧ wx.heap[gy]? = some (Obj.cells #[.int .i64 kj, .int .i64 nj, .slice u4 u5 u6, .slice v4 v5 v6] 73) ∧ Below wr.heap.size wr wx)
          case first =>
            go_region
            all_goals go_wp2_with fail
            all_goals go_meet
            · obtain ⟨h1, h2, h3⟩ := two_newb wr (Obj.cells #[.int .i64 ki, .int .i64 ni, .slice u1 u2 u3, .slice v1 v2 v3] 73) (Obj.cells #[.int .i64 kj, .int .i64 nj, .slice u4 u5 u6, .slice v4 v5 v6] 73)
              exact ⟨_, _, rfl, rfl, h1, h2, h3⟩
            · obtain ⟨h1, h2, h3⟩ := two_newb wr (Obj.cells #[.int .i64 kj, .int .i64 nj, .slice u4 u5 u6, .slice v4 v5 v6] 73) (Obj.cells #[.int .i64 ki, .int .i64 ni, .slice u1 u2 u3, .slice v1 v2 v3] 73)
              exact ⟨_, _, rfl, rfl, h2, h1, h3⟩
          case rest =>
            obtain ⟨gx, gy, rfl, rfl, hx, hy, hbc⟩ := hcut
            have f0 : wc.cell? ⟨gx, 0, none⟩ = some (.int .i64 ki) := cell_of_row wc _ 0 _ _ (0, 0) hx
            have f3 : wc.cell? ⟨gx, 3, none⟩ = some (.slice v1 v2 v3) := cell_of_row wc _ 3 _ _ (0, 0) hx
            have h0 : wc.cell? ⟨gy, 0, none⟩ = some (.int .i64 kj) := cell_of_row wc _ 0 _ _ (0, 0) hy
            have h3 : wc.cell? ⟨gy, 3, none⟩ = some (.slice v4 v5 v6) := cell_of_row wc _ 3 _ _ (0, 0) hy
            have hbt : Below W0.heap.size W0 wc := HK.out.2.trans (hbc.mono HK.out.2.size)
            have y1 : wc.cell? ⟨w.heap.size, 1, none⟩ = some (.slice (some ⟨g, 0, none⟩) q cv) := (hbt.cell (p := ⟨w.heap.size, 1, none⟩) hl0).trans x1
            have b4 : wc.cell? ⟨g, i, none⟩ = some (.int .i64 (c i : Nat)) := (hbc.cell (p := ⟨g, i, none⟩) hgl1).trans a4
            have b5 : wc.cell? ⟨g, k, none⟩ = some (.int .i64 (c k : Nat)) := (hbc.cell (p := ⟨g, k, none⟩) hgl1).trans e4
            have HBT := Lib.hid hbt
            clear hx hy hbc hbt a0 a1 a2 a3 a4 e0 e1 e2 e3 e4 y0
            have HNO : Hid (∀ hb : ¬ (c i = c k ∧ ki ≠ 1 ∧ kj ≠ 1 ∧ ¬ (ki = kj ∧ v2 = v5)), ∀ y, y < k + 1 → ¬ BadAt (gM M) c i y) := Lib.hid (fun hb y hyk => by
              rcases Nat.lt_or_ge y k with h | h
              · exact HK.out.1 y h
              · obtain rfl : y = k := by omega
                rintro ⟨z, z', q1, q2, q3, q4, q5, q6⟩
                obtain ⟨r1, r2, r3, r4, r5, r6⟩ := HP.out
                rw [r1] at q1
                rw [r2] at q2
                cases q1
                cases q2
                refine hb ⟨q3, by rwa [← r3], by rwa [← r4], fun hc => q6 ⟨by rw [r3, r4]; exact hc.1, by rw [r5, r6]; exact hc.2⟩⟩)
            have HYES : Hid ((c i = c k ∧ ki ≠ 1 ∧ kj ≠ 1 ∧ ¬ (ki = kj ∧ v2 = v5)) → RClash (gM M) c) := Lib.hid (fun ⟨q3, q4, q5, q6⟩ => by
              obtain ⟨r1, r2, r3, r4, r5, r6⟩ := HP.out
              exact ⟨i, k, hki, p, p', r1, r2, q3, by rw [r3]; exact q4, by rw [r4]; exact q5, fun hf => q6 ⟨by rw [← r3, ← r4]; exact hf.1, by rw [← r5, ← r6]; exact hf.2⟩⟩)
            by_cases m1 : c i = c k
            case neg =>
              have t1 : ((c i : Int) == (c k : Int)) = false := by simp; omega
              have HE := Lib.hid (HNO.out (by intro h; exact m1 h.1))
              clear m1
              go_wp2_with fail
              go_quiet (fail)
              go_wp2_with fail
              go_roundw
              case rel => exact ⟨k + 1, by omega, by go_num, HE.out, below_drewN HBT.out _⟩
              case measure => simp [intOf]; omega
            have t1 : ((c i : Int) == (c k : Int)) = true := by rw [m1]; simp
            by_cases m2 : ki = 1
            case pos =>
              have t2 : (ki != 1) = false := by simp [m2]
              have HE := Lib.hid (HNO.out (by intro h; exact h.2.1 m2))
              clear m1 m2
              go_wp2_with fail
              go_quiet (fail)
              go_wp2_with fail
              go_roundw
              case rel => exact ⟨k + 1, by omega, by go_num, HE.out, below_drewN HBT.out _⟩
              case measure => simp [intOf]; omega
            have t2 : (ki != 1) = true := bne_iff_ne.2 m2
            by_cases m3 : kj = 1
            case pos =>
              have t3 : (kj != 1) = false := by simp [m3]
              have HE := Lib.hid (HNO.out (by intro h; exact h.2.2.1 m3))
              clear m1 m2 m3
              go_wp2_with fail
              go_quiet (fail)
              go_wp2_with fail
              go_roundw
              case rel => exact ⟨k + 1, by omega, by go_num, HE.out, below_drewN HBT.out _⟩
              case measure => simp [intOf]; omega
            have t3 : (kj != 1) = true := bne_iff_ne.2 m3
            by_cases m4 : ki = kj
            case neg =>
              have t4 : (ki != kj) = true := bne_iff_ne.2 m4
              have HE := Lib.hid (HYES.out ⟨m1, m2, m3, fun h => m4 h.1⟩)
              clear m1 m2 m3 m4
              go_wp2_with fail
              go_quiet (fail)
              go_wp2_with fail
              go_ret
              exact ⟨true, rfl, ⟨fun _ => HE.out, fun _ => rfl⟩, below_drewN (HB0.out.trans (HBT.out.mono (Nat.le_of_lt hl0))) _⟩
            have t4 : (ki != kj) = false := by simp [m4]
            by_cases m5 : v2 = v5
            case neg =>
              have t5 : ((v2 : Int) != (v5 : Int)) = true := bne_iff_ne.2 (by omega)
              have HE := Lib.hid (HYES.out ⟨m1, m2, m3, fun h => m5 h.2⟩)
              clear m1 m2 m3 m4 m5
              go_wp2_with fail
              go_quiet (fail)
              go_wp2_with fail
              go_ret
              exact ⟨true, rfl, ⟨fun _ => HE.out, fun _ => rfl⟩, below_drewN (HB0.out.trans (HBT.out.mono (Nat.le_of_lt hl0))) _⟩
            case pos =>
              have t5 : ((v2 : Int) != (v5 : Int)) = false := by simp [m5]
              have HE := Lib.hid (HNO.out (by intro h; exact h.2.2.2 ⟨m4, m5⟩))
              clear m1 m2 m3 m4 m5
              go_wp2_with fail
              go_quiet (fail)
              go_wp2_with fail
              go_roundw
              case rel => exact ⟨k + 1, by omega, by go_num, HE.out, below_drewN HBT.out _⟩
              case measure => simp [intOf]; omega
        · obtain rfl : k = i := by omega
          go_wp2_with fail
          go_roundw
          case rel =>
            refine ⟨k + 1, by omega, by go_num, fun x y hx hy => ?_, HK.out.2⟩
            rcases Nat.lt_or_ge x k with h | h
            · exact HI.out.1 x y h hy
            · obtain rfl : x = k := by omega
              exact HK.out.1 y hy
          case measure => simp [intOf]; omega
    · obtain rfl : i = q := by omega
      go_wp2_with fail
      go_ret
      refine ⟨false, rfl, ⟨fun h => absurd h (by decide), ?_⟩, HB0.out.trans (HI.out.2.mono (Nat.le_of_lt hl0))⟩
      rintro ⟨x, y, hyx, p, p', hx, hr⟩
      have := (List.getElem?_eq_some_iff.1 hx).1
      exact absurd ⟨p, p', hx, hr⟩ (HI.out.1 x y (by have := HM.out.1; omega) hyx)
end Go.Proofs.YtojgiienohpaiaaGreat
namespace Go.Proofs.YtojgiienohpaiaaGreat
open Go.RowKit
open Un (rowI rowI_get own_shape paint)
set_option maxRecDepth 100000
def Rg (D : Nat → Prop) (B : Nat) (w : World) (v : Value) (M : List Rm) (G : List Gn) : Prop := RgM D B w v M ∧ gM M = G ∧ GI G
theorem Rg.below {D : Nat → Prop} {B : Nat} {w w' : World} {v : Value} {M : List Rm} {G : List Gn} (h : Rg D B w v M G) (hB : B ≤ w.heap.size) (hb : Below w.heap.size w w') : Rg D B w' v M G := ⟨h.1.below hB hb, h.2⟩
theorem Rg.len {D : Nat → Prop} {B : Nat} {w : World} {v : Value} {M : List Rm} {G : List Gn} (h : Rg D B w v M G) : M.length = G.length := by rw [← h.2.1]; simp [gM]
theorem Rg.rows {D : Nat → Prop} {B : Nat} {w : World} {v : Value} {M : List Rm} {G : List Gn} (h : Rg D B w v M G) : ∀ x ∈ M, x.2.2.1 = x.1.2.2.2.2.length := by
  intro x hx
  obtain ⟨A, c, e⟩ := (h.1.nodes x hx).2.1.form
  unfold slv at e
  injection e
theorem radd_rt (D : Nat → Prop) (B : Nat) (w : World) (vm : Value) (M : List Rm) (G : List Gn) (h : Rg D B w vm M G) (hD : ∀ b, w.heap.size ≤ b → D b) (hB : B ≤ w.heap.size) (x : Ty1) (ht : TyV B w x.2.2.2 (slv x.2.2.1)) (hr : rt1 x = true) (hl : G.length + (1 + x.2.2.2.size) ≤ 100000) :
    Calls Tryz.prog 32 #[vm, t1V x] w fun e w' => ∃ (v' : Value) (M' : List Rm), e = .returned (.tuple #[v', .int .i64 ((gadd1 G x.1 x.2.1 x.2.2.2).2 : Nat)]) ∧ Rg D B w' v' M' (gadd1 G x.1 x.2.1 x.2.2.2).1 ∧ Below w.heap.size w w' := by
  obtain ⟨hM, hg, hG⟩ := id h
  have hlen := h.len
  have ha := rt1_right hr (TyV.len ht)
  have hlo : LenOk (Fo.cons x.1 x.2.1 x.2.2.1 x.2.2.2 .nil) := ⟨TyV.len ht, (TyV.list ht).lenOk, trivial⟩
  have hv := vok_of ha hlo
  have hG2 : GI ((M1 M).map rG) := by rw [← gM_eq, hg]; exact hG
  obtain ⟨g1, g2, g3⟩ := radd1_G (M1 M) x.1 x.2.1 x.2.2.1 x.2.2.2 hG2 hv
  rw [← gM_eq, hg] at g1 g2
  rw [g1] at g3
  refine (raddw_any B (x.2.2.2.size + 1) D x.2.2.2 x.1 x.2.1 x.2.2.1 w M vm (by omega) (by omega) hB ht hv.1 hv.2.1 hD hM).mono ?_
  rintro e w' ⟨v', M', rfl, hM', hR', hb⟩
  refine ⟨v', M', by rw [g2], ⟨hR', by rw [gM_eq, hM', g1], g3⟩, hb⟩
def DoneP (G : List Gn) (c : Nat → Nat) (i k : Nat) : Prop := ∀ p q : Gn, G[i]? = some p → G[k]? = some q → c i = c k → p.1 ≠ 1 → p.1 = q.1 → p.2.2.2.length = q.2.2.2.length → ∀ (j a b : Nat), p.2.2.2[j]? = some a → q.2.2.2[j]? = some b → c a = c b
theorem closed_done {G : List Gn} {c : Nat → Nat} (h : ∀ i k, i < G.length → k < i → DoneP G c i k) : ClosedC G c := by
  intro x y p q hx hy hc h1 hk hl j a b ha hb
  have lx := (List.getElem?_eq_some_iff.1 hx).1
  have ly := (List.getElem?_eq_some_iff.1 hy).1
  rcases Nat.lt_trichotomy x y with h2 | rfl | h2
  · exact (h y x ly h2 q p hy hx hc.symm (by rwa [← hk]) hk.symm hl.symm j b a hb ha).symm
  · rw [hx] at hy
    cases hy
    rw [ha] at hb
    cases hb
    rfl
  · exact h x y lx h2 p q hx hy hc h1 hk hl j a b ha hb
theorem Rc.part {G : List Gn} {c : Nat → Nat} {E : List (Nat × Nat)} (h : Rc G c E) {i k j a b : Nat} {p q : Gn} (hp : G[i]? = some p) (hq : G[k]? = some q) (hc : c i = c k) (h1 : p.1 ≠ 1) (hk : p.1 = q.1) (hl : p.2.2.2.length = q.2.2.2.length) (ha : p.2.2.2[j]? = some a) (hb : q.2.2.2[j]? = some b) : a < G.length ∧ b < G.length ∧ Rc G (paint c a b) E := by
  have la := h.parts _ _ hp _ (List.mem_of_getElem? ha)
  have lb := h.parts _ _ hq _ (List.mem_of_getElem? hb)
  exact ⟨la, lb, h.join la lb (.part (h.sound i k (List.getElem?_eq_some_iff.1 hp).1 (List.getElem?_eq_some_iff.1 hq).1 hc) hp hq h1 (by rwa [← hk]) hk hl ha hb)⟩
def TyN (x : Ty1) : Prop := x.2.2.1.2.1 = x.2.2.2.len ∧ LenOk x.2.2.2
def SysOk (s : Sys) : Prop := GI s.1 ∧ Gp s.1 ∧ ∀ a b, (a, b) ∈ s.2 → a < s.1.length ∧ b < s.1.length
theorem SysOk.stp {s : Sys} (h : SysOk s) (x : Eqn) (hr : rtE x = true) (h1 : TyN x.1) (h2 : TyN x.2.1) : SysOk (stp s x) := by
  obtain ⟨hG, hp, he⟩ := h
  obtain ⟨r1, r2⟩ : rt1 x.1 = true ∧ rt1 x.2.1 = true := by unfold rtE at hr; rwa [Bool.and_eq_true] at hr
  obtain ⟨⟨X1, q1, _⟩, g1, p1, l1⟩ := gadd1_all (k := x.1.1) (n := x.1.2.1) (u := x.1.2.2.1) (ps := x.1.2.2.2) hG hp (rt1_right r1 h1.1) ⟨h1.1, h1.2, trivial⟩
  obtain ⟨⟨X2, q2, _⟩, g2, p2, l2⟩ := gadd1_all (k := x.2.1.1) (n := x.2.1.2.1) (u := x.2.1.2.2.1) (ps := x.2.1.2.2.2) g1 p1 (rt1_right r2 h2.1) ⟨h2.1, h2.2, trivial⟩
  refine ⟨g2, p2, fun a b hab => ?_⟩
  show a < (gadd1 (gadd1 s.1 x.1.1 x.1.2.1 x.1.2.2.2).1 x.2.1.1 x.2.1.2.1 x.2.1.2.2.2).1.length ∧ b < (gadd1 (gadd1 s.1 x.1.1 x.1.2.1 x.1.2.2.2).1 x.2.1.1 x.2.1.2.1 x.2.1.2.2.2).1.length
  have e1 : (gadd1 s.1 x.1.1 x.1.2.1 x.1.2.2.2).1.length ≤ (gadd1 (gadd1 s.1 x.1.1 x.1.2.1 x.1.2.2.2).1 x.2.1.1 x.2.1.2.1 x.2.1.2.2.2).1.length := by rw [q2, List.length_append]; omega
  have e0 : s.1.length ≤ (gadd1 s.1 x.1.1 x.1.2.1 x.1.2.2.2).1.length := by rw [q1, List.length_append]; omega
  rcases List.mem_append.1 hab with h | h
  · have := he a b h
    omega
  · obtain ⟨rfl, rfl⟩ : a = _ ∧ b = _ := by simpa using h
    omega
theorem fold_sysok (l : List Eqn) (hr : ∀ y ∈ l, rtE y = true) (hn : ∀ y ∈ l, TyN y.1 ∧ TyN y.2.1) : ∀ s, SysOk s → SysOk (l.foldl Go.Proofs.YtojgiienohpaiaaGreat.stp s) := by
  induction l with
  | nil => exact fun s h => h
  | cons x l ih => exact fun s h => ih (fun y hy => hr y (List.mem_cons_of_mem _ hy)) (fun y hy => hn y (List.mem_cons_of_mem _ hy)) _ (h.stp x (hr x List.mem_cons_self) (hn x List.mem_cons_self).1 (hn x List.mem_cons_self).2)
theorem cls_ok (l : List Eqn) (hr : ∀ y ∈ l, rtE y = true) (hn : ∀ y ∈ l, TyN y.1 ∧ TyN y.2.1) : SysOk (cls l) :=
  fold_sysok l hr hn ([], []) (by
    refine ⟨fun x hx => ?_, fun x hx => ?_, fun a b h => ?_⟩
    · simp at hx
    · simp at hx
    · simp at h)
theorem EqT.tyN {B : Nat} {w : World} {x : Eqn} (h : EqT B w x) : TyN x.1 ∧ TyN x.2.1 :=
  ⟨⟨TyV.len h.1, (TyV.list h.1).lenOk⟩, ⟨TyV.len h.2, (TyV.list h.2).lenOk⟩⟩
theorem Rc.start {s : Sys} (h : SysOk s) : Rc s.1 (fun k => k) s.2 := by
  refine ⟨fun i j _ _ e => ?_, fun x p hp a ha => (h.2.1 p (List.mem_of_getElem? hp)).2 a ha⟩
  have e : i = j := e
  subst e
  exact .refl _
theorem prC_at (T : List (Nat × Nat)) (i : Nat) (hi : i < T.length) : (prC T)[i * 2]? = some (.int .i64 (T[i].1 : Nat)) ∧ (prC T)[i * 2 + 1]? = some (.int .i64 (T[i].2 : Nat)) := by
  induction T generalizing i with
  | nil => simp at hi
  | cons x T ih =>
    cases i with
    | zero => simp [prC]
    | succ i =>
      have := ih i (by simpa using hi)
      have e : ∀ j, (prC (x :: T))[(i + 1) * 2 + j]? = (prC T)[i * 2 + j]? := fun j => by
        unfold prC
        rw [List.flatMap_cons, List.getElem?_append_right (by simp; omega)]
        congr 1
        simp; omega
      have e0 := e 0
      simp only [Nat.add_zero] at e0
      rw [e0, e 1]
      exact this
def J3 (wq : World) (G : List Gn) (E : List (Nat × Nat)) (m : Nat) (Q P : (Nat → Nat) → Prop) (s9 s11 : Value) (wx : World) : Prop :=
  ∃ (ch : Bool) (c : Nat → Nat), s11 = .bool ch ∧ wx.ownsRow wq.heap.size 3 1 s9 G.length (rowI G.length c) ∧ Rc G c E ∧ (∀ a b, (a, b) ∈ E → c a = c b) ∧ Q c ∧ (ch = true → Un.cnt G.length c < m) ∧ (ch = false → Un.cnt G.length c ≤ m ∧ P c) ∧ Below wq.heap.size wq wx
theorem J3.imp {wq : World} {G : List Gn} {E : List (Nat × Nat)} {m : Nat} {Q Q' P P' : (Nat → Nat) → Prop} {s9 s11 : Value} {wx : World} (h : J3 wq G E m Q P s9 s11 wx) (hQ : ∀ c, Q c → Q' c) (hP : ∀ c, Q c → P c → P' c) : J3 wq G E m Q' P' s9 s11 wx := by
  obtain ⟨ch, c, h1, h2, h3, h4, h5, h6, h7, h8⟩ := h
  exact ⟨ch, c, h1, h2, h3, h4, hQ c h5, h6, fun e => ⟨(h7 e).1, hP c h5 (h7 e).2⟩, h8⟩
end Go.Proofs.YtojgiienohpaiaaGreat
