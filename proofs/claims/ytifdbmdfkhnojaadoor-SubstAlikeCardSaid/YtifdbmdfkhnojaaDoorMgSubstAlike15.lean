/- Texts of one proof, one behind the other. -/
import Derived.Test.YtifdbmdfkhnojaaDoorMgSubstAlike14
import Derived.Deep.RegionWith
/- types.pieces. -/
namespace Go.Proofs.YtifdbmdfkhnojaaDoor
open Go.RowKit Go.Shelf
attribute [local go_sem ↓] builtin_app
attribute [local go_sem] Oper.semAt_some
/-- What pieces gives. -/
def PcsOf (B : Nat) (k n : Int) (ps : Fo) (w w' : World) (v : Value) : Prop := ∃ L : List Pc, w'.ownsRow w.heap.size 84 4 v L.length (L.flatMap pcC) ∧ Below w.heap.size w w' ∧ L.flatMap ptx = oneT k n ps.txts ∧ pws L < (if k = 0 then 1 else 3 + 6 * ps.size) ∧ (∀ p ∈ L, PcOk B w p) ∧ L.length ≤ 5000000
theorem nameB_len (n : Int) : (nameB n).length ≤ 40 := by
  unfold nameB
  split
  · rename_i h
    simp only [Bool.and_eq_true, decide_eq_true_eq] at h
    have := Lib.itoa_length_le (n / 26) (by omega) (by omega)
    split <;> simp <;> omega
  · simp
theorem one_pc (B : Nat) (k n : Int) (ps : Fo) (w W : World) (s : List UInt8) (hs : s.length ≤ 40) (hb : Below w.heap.size w W) (ht : oneT k n ps.txts = s) (hk : k ≠ 0) :
    PcsOf B k n ps w (W.alloc (.cells #[strB s, .int .i64 0, .int .i64 0, .slice none 0 0] 84)) (.slice (some ⟨W.heap.size, 0, none⟩) 1 1) := by
  refine ⟨[pcS s], ?_, hb.trans ((Below.refl _ _).alloc hb.size _), by rw [List.flatMap_cons, ptx_str, ht]; simp, ?_, ?_, by simp⟩
  · exact own_new W 84 4 1 ([pcS s].flatMap pcC) rfl (by unfold maxLen; omega) w hb
  · rw [if_neg hk]; simp [pws, pw]; omega
  · intro p hp
    obtain rfl := List.mem_singleton.1 hp
    exact PcOk.str _ _ _ hs
set_option maxHeartbeats 2000000 in
set_option maxRecDepth 100000 in
theorem pieces4 (B : Nat) (n : Int) (u : Sl) (ps : Fo) (w : World) (ha : alone 4 n ps.len = true) (ho : ps.ok = true) (hB_ : B ≤ w.heap.size) (hps : TyV B w ps (slv u)) :
    Calls Tryd.prog 56 #[tyVal 4 n (slv u)] w fun e w' => ∃ v, e = .returned v ∧ PcsOf B 4 n ps w w' v := by
  obtain ⟨u1, u2, u3⟩ := u
  have hb := (Below.refl w.heap.size w).alloc (Nat.le_refl _) (.cells #[.int .i64 4, .int .i64 n, .slice u1 u2 u3] 25)
  dsimp only [tyVal, slv] at hps ⊢
  refine (callsIn_wide (n := 3)).1 ?_
  refine callsIn_of_wp Tryd.func56 rfl trivial ?_ rfl
  simp only [Tryd.ntmps56, List.size_toArray, List.length_cons, List.length_nil, Nat.reduceAdd, Nat.reduceSub, Array.replicate_succ, Array.replicate_zero, List.push_toArray, List.append_toArray, List.nil_append, List.cons_append]
  have hl2 : ps.len = 2 := by
    simp [alone] at ha
    omega
  obtain ⟨k0, n0, ⟨a1, a2, a3⟩, ps0, k1, n1, ⟨b1, b2, b3⟩, ps1, rfl⟩ : ∃ k0 n0 ua ps0 k1 n1 ub ps1, ps = .cons k0 n0 ua ps0 (.cons k1 n1 ub ps1 .nil) := by
    match ps, hl2 with
    | .cons k0 n0 ua ps0 (.cons k1 n1 ub ps1 .nil), _ => exact ⟨_, _, _, _, _, _, _, _, rfl⟩
    | .cons _ _ _ _ (.cons _ _ _ _ (.cons _ _ _ _ r)), h => simp [Fo.len] at h
  obtain ⟨b, off, cap, hv, hc1, hc2, hlt, hC⟩ := hps.form (by rw [hl2]; omega)
  rw [hl2] at hv
  injection hv with hA hB hcc
  subst hA; subst hB; subst hcc
  replace hlt := Nat.lt_of_lt_of_le hlt hB_
  obtain ⟨d0, d1, d2, e1, hC2⟩ := tyC_cons.1 hC
  obtain ⟨d3, d4, d5, e2, _⟩ := tyC_cons.1 hC2
  simp only [Fo.ok, Bool.and_eq_true] at ho
  obtain ⟨W, hW⟩ : ∃ W, W = w.alloc (.cells #[.int .i64 4, .int .i64 n, .slice (some ⟨b, off, none⟩) 2 u3] 25) := ⟨_, rfl⟩
  rw [← hW] at hb
  have c0 := (hb.cell (p := ⟨b, off, none⟩) hlt).trans d0
  have c1 := (hb.cell (p := ⟨b, off + 1, none⟩) hlt).trans d1
  have c2 := (hb.cell (p := ⟨b, off + 2, none⟩) hlt).trans d2
  have c3 := (hb.cell (p := ⟨b, off + 3, none⟩) hlt).trans d3
  have c4 := (hb.cell (p := ⟨b, off + 3 + 1, none⟩) hlt).trans d4
  have c5 := (hb.cell (p := ⟨b, off + 3 + 2, none⟩) hlt).trans d5
  dsimp only [slv] at c2 c5 d2 d5
  -- the two that come behind
  have hL2 : ∀ (W0 w2 : World) (v2 vx : Value), Below W.heap.size W W0 → Below W0.heap.size W0 w2 → w2.ownsRow W0.heap.size 84 4 v2 (brkP k0 n0 (a1, a2, a3) ps0).length ((brkP k0 n0 (a1, a2, a3) ps0).flatMap pcC) → Rd w2 4 vx 2 ([pcS [32, 45, 62, 32], pcT k1 n1 (b1, b2, b3) ps1].flatMap pcC) →
      ∃ v3 w3, (app_ #[85, 85] 85 #[v2, vx]).run Tryd.prog w2 = .ok v3 w3 ∧ Hid (PcsOf B 4 n (.cons k0 n0 (a1, a2, a3) ps0 (.cons k1 n1 (b1, b2, b3) ps1 .nil)) w w3 v3) := by
    intro W0 w2 v2 vx hb0 hb2 hown2 hrd
    have hz := brkP_len k0 n0 (a1, a2, a3) ps0
    have hown2' : w2.ownsRow w.heap.size 84 4 v2 (brkP k0 n0 (a1, a2, a3) ps0).length ((brkP k0 n0 (a1, a2, a3) ps0).flatMap pcC) := by
      refine ⟨hown2.1, ?_⟩
      rcases hown2.2 with h | ⟨g, cp, cur, h1, h2, h3⟩
      · exact .inl h
      · exact .inr ⟨g, cp, cur, h1, Nat.le_trans (Nat.le_trans hb.size hb0.size) h2, h3⟩
    have hw2 : Below w.heap.size w w2 := hb.trans ((hb0.mono hb.size).trans (hb2.mono (Nat.le_trans hb.size hb0.size)))
    obtain ⟨v3, w3, hrun3, hown3, hb3, _⟩ := app_pc w2 w.heap.size v2 _ hown2' vx [pcS [32, 45, 62, 32], pcT k1 n1 (b1, b2, b3) ps1] hrd (by simp; omega) hw2.size
    refine ⟨v3, w3, hrun3, Lib.hid ⟨_, hown3, hw2.trans hb3, ?_, ?_, ?_, by simp; omega⟩⟩
    · rw [List.flatMap_append, brkP_txt]
      simp [Fo.txts, oneT, ptx]
    · rw [pws_app, if_neg (by omega)]
      have h1 := brkP_pw k0 n0 (a1, a2, a3) ps0
      have hp1 : pw (pcS [32, 45, 62, 32]) = 1 := by simp [pw]
      have hp2 : pw (pcT k1 n1 (b1, b2, b3) ps1) ≤ 3 + 6 * ps1.size := by simp only [pw]; split <;> omega
      simp only [pws, List.map_cons, List.map_nil, List.sum_cons, List.sum_nil, Fo.size] at h1 ⊢
      omega
    · intro p hp
      rcases List.mem_append.1 hp with hp | hp
      · exact brkP_ok ⟨e1, .inr ⟨ho.1.1, ho.1.2⟩, by simp⟩ p hp
      · simp only [List.mem_cons, List.not_mem_nil, or_false] at hp
        rcases hp with rfl | rfl
        · exact PcOk.str _ _ _ (by simp)
        · exact ⟨e2, .inr ⟨ho.2.1.1, ho.2.1.2⟩, by simp⟩
  have HL2 := Lib.hid hL2
  have HBB := Lib.hid hb
  have HWW := Lib.hid hW
  clear hps hC hC2 d0 d1 d2 d3 d4 d5 e1 e2 hL2 ha ho hb hc1 hc2 hl2
  rw [hW] at c0 c1 c2 c3 c4 c5
  clear hW
  have c4' : (w.alloc (.cells #[.int .i64 4, .int .i64 n, .slice (some ⟨b, off, none⟩) 2 u3] 25)).cell? ⟨b, off + 4, none⟩ = some (.int .i64 n1) := c4
  have c5' : (w.alloc (.cells #[.int .i64 4, .int .i64 n, .slice (some ⟨b, off, none⟩) 2 u3] 25)).cell? ⟨b, off + 5, none⟩ = some (.slice b1 b2 b3) := c5
  have hWs : W.heap.size = w.heap.size + 1 := by rw [HWW.out]; simp
  have hMM : ∀ w2 : World, Below W.heap.size W w2 → w2.cell? ⟨w.heap.size, 2, none⟩ = some (.slice (some ⟨b, off, none⟩) 2 u3) ∧ w2.cell? ⟨b, off + 3, none⟩ = some (.int .i64 k1) ∧ w2.cell? ⟨b, off + 4, none⟩ = some (.int .i64 n1) ∧ w2.cell? ⟨b, off + 5, none⟩ = some (.slice b1 b2 b3) := by
    intro w2 h
    have hlt2 : b < W.heap.size := by omega
    refine ⟨(h.cell (p := ⟨w.heap.size, 2, none⟩) (by simp only; omega)).trans ?_, (h.cell (p := ⟨b, off + 3, none⟩) hlt2).trans ?_, (h.cell (p := ⟨b, off + 4, none⟩) hlt2).trans ?_, (h.cell (p := ⟨b, off + 5, none⟩) hlt2).trans ?_⟩
    · rw [HWW.out]; exact cell_of_row _ w.heap.size 2 _ _ (0, 0) (heap_alloc_new w _)
    · rw [HWW.out]; exact c3
    · rw [HWW.out]; exact c4
    · rw [HWW.out]; exact c5
  -- the slice laid behind the call
  have hBA : ∀ (v2 : Value) (w2 : World), Below W.drew.heap.size W.drew w2 → w2.ownsRow W.drew.heap.size 84 4 v2 (brkP k0 n0 (a1, a2, a3) ps0).length ((brkP k0 n0 (a1, a2, a3) ps0).flatMap pcC) →
      w2.cell? ⟨w.heap.size, 2, none⟩ = some (.slice (some ⟨b, off, none⟩) 2 u3) ∧ w2.cell? ⟨b, off + 3, none⟩ = some (.int .i64 k1) ∧ w2.cell? ⟨b, off + 4, none⟩ = some (.int .i64 n1) ∧ w2.cell? ⟨b, off + 5, none⟩ = some (.slice b1 b2 b3) ∧ ∃ v3 w3, (app_ #[85, 85] 85 #[v2, .slice (some ⟨w2.heap.size, 0, none⟩) 2 2]).run Tryd.prog (w2.alloc (.cells #[.string ⟨#[32, 45, 62, 32]⟩, .int .i64 0, .int .i64 0, .slice none 0 0, .string ⟨#[]⟩, .int .i64 k1, .int .i64 n1, .slice b1 b2 b3] 84)) = .ok v3 w3 ∧ Hid (PcsOf B 4 n (.cons k0 n0 (a1, a2, a3) ps0 (.cons k1 n1 (b1, b2, b3) ps1 .nil)) w w3 v3) := by
    intro v2 w2 hb2 hown2
    obtain ⟨m0, m1, m2, m3⟩ := hMM w2 ((Below.refl _ W).drew.trans hb2)
    refine ⟨m0, m1, m2, m3, ?_⟩
    refine HL2.out W.drew _ v2 _ (Below.refl _ W).drew (hb2.alloc hb2.size _) (hown2.alloc _) ?_
    exact rd_new w2 ([pcS [32, 45, 62, 32], pcT k1 n1 (b1, b2, b3) ps1].flatMap pcC) 84 4 2 rfl (by unfold maxLen; omega)
  -- the slice laid ahead of it
  have hAB : ∀ (v2 : Value) (w2 : World), Below (W.alloc (.cells #[.string ⟨#[32, 45, 62, 32]⟩, .int .i64 0, .int .i64 0, .slice none 0 0, .string ⟨#[]⟩, .int .i64 k1, .int .i64 n1, .slice b1 b2 b3] 84)).drew.heap.size (W.alloc (.cells #[.string ⟨#[32, 45, 62, 32]⟩, .int .i64 0, .int .i64 0, .slice none 0 0, .string ⟨#[]⟩, .int .i64 k1, .int .i64 n1, .slice b1 b2 b3] 84)).drew w2 → w2.ownsRow (W.alloc (.cells #[.string ⟨#[32, 45, 62, 32]⟩, .int .i64 0, .int .i64 0, .slice none 0 0, .string ⟨#[]⟩, .int .i64 k1, .int .i64 n1, .slice b1 b2 b3] 84)).drew.heap.size 84 4 v2 (brkP k0 n0 (a1, a2, a3) ps0).length ((brkP k0 n0 (a1, a2, a3) ps0).flatMap pcC) →
      w2.cell? ⟨w.heap.size, 2, none⟩ = some (.slice (some ⟨b, off, none⟩) 2 u3) ∧ w2.cell? ⟨b, off + 3, none⟩ = some (.int .i64 k1) ∧ w2.cell? ⟨b, off + 4, none⟩ = some (.int .i64 n1) ∧ w2.cell? ⟨b, off + 5, none⟩ = some (.slice b1 b2 b3) ∧ ∃ v3 w3, (app_ #[85, 85] 85 #[v2, .slice (some ⟨w.heap.size + 1, 0, none⟩) 2 2]).run Tryd.prog w2 = .ok v3 w3 ∧ Hid (PcsOf B 4 n (.cons k0 n0 (a1, a2, a3) ps0 (.cons k1 n1 (b1, b2, b3) ps1 .nil)) w w3 v3) := by
    intro v2 w2 hb2 hown2
    obtain ⟨m0, m1, m2, m3⟩ := hMM w2 ((((Below.refl _ W).alloc (Nat.le_refl _) _).drew).trans (hb2.mono (by show W.heap.size ≤ (W.alloc _).heap.size; simp)))
    refine ⟨m0, m1, m2, m3, ?_⟩
    refine HL2.out (W.alloc (.cells #[.string ⟨#[32, 45, 62, 32]⟩, .int .i64 0, .int .i64 0, .slice none 0 0, .string ⟨#[]⟩, .int .i64 k1, .int .i64 n1, .slice b1 b2 b3] 84)).drew w2 v2 _ ((Below.refl _ W).alloc (Nat.le_refl _) _).drew hb2 hown2 ?_
    rw [← hWs]
    have hr : Rd (W.alloc (.cells #[.string ⟨#[32, 45, 62, 32]⟩, .int .i64 0, .int .i64 0, .slice none 0 0, .string ⟨#[]⟩, .int .i64 k1, .int .i64 n1, .slice b1 b2 b3] 84)).drew 4 (.slice (some ⟨W.heap.size, 0, none⟩) 2 2) 2 ([pcS [32, 45, 62, 32], pcT k1 n1 (b1, b2, b3) ps1].flatMap pcC) := (rd_new W ([pcS [32, 45, 62, 32], pcT k1 n1 (b1, b2, b3) ps1].flatMap pcC) 84 4 2 rfl (by unfold maxLen; omega)).drew
    exact hr.below hb2
  rw [HWW.out] at hBA hAB
  have HBA := Lib.hid hBA
  have HAB := Lib.hid hAB
  clear hBA hAB hWs hMM
  have hmix : Tryd.prog.follows Departure.mixedOrders = true := by kernel_rfl
  gi_wp2
  gi_region_with_o (refine ⟨trivial, ?_⟩; gi_at_call 70; refine (callsIn_wide.2 (bracketed_any k0 n0 (a1, a2, a3) ps0 _)).mono ?_; rintro e w2 ⟨v2, rfl, hown2, hb2⟩; (first | (have hh := HBA.out v2 w2 hb2 hown2) | (have hh := HAB.out v2 w2 hb2 hown2)); obtain ⟨m0, m1, m2, m3, v3, w3, hrun3, HR⟩ := hh)
  all_goals gi_wp2
  all_goals
    refine bodyPost_ret (results_tmp rfl _ _ _) rfl ?_
    exact ⟨_, rfl, HR.out⟩
set_option maxHeartbeats 2000000 in
set_option maxRecDepth 100000 in
theorem pieces_any (B : Nat) (k n : Int) (u : Sl) (ps : Fo) (w : World) (hok : k = 0 ∧ ps = .nil ∨ alone k n ps.len = true ∧ ps.ok = true) (hB_ : B ≤ w.heap.size) (hps : TyV B w ps (slv u)) (ht : Tab w) (hs : ps.size < 1000000) :
    Calls Tryd.prog 56 #[tyVal k n (slv u)] w fun e w' => ∃ v, e = .returned v ∧ PcsOf B k n ps w w' v := by
  obtain ⟨u1, u2, u3⟩ := u
  have hll := ps.len_le_size
  have hb := (Below.refl w.heap.size w).alloc (Nat.le_refl _) (.cells #[.int .i64 k, .int .i64 n, .slice u1 u2 u3] 25)
  by_cases h4 : k = 4
  · subst h4
    obtain ⟨ha, ho⟩ := hok.resolve_left (by rintro ⟨h, _⟩; omega)
    exact pieces4 B n (u1, u2, u3) ps w ha ho hB_ hps
  dsimp only [tyVal, slv] at hps ⊢
  go_enter Tryd.func56, Tryd.ntmps56
  by_cases h1 : k = 1
  · subst h1
    have HN := Lib.hid (name_any n (w.alloc (.cells #[.int .i64 1, .int .i64 n, .slice u1 u2 u3] 25)) (ht.below hb))
    have HB := Lib.hid hb
    clear hok hps ht hb
    go_wp2_with (go_at_call 69; refine HN.out.mono ?_; rintro e w2 ⟨rfl, hb2⟩)
    go_ret
    exact ⟨_, rfl, one_pc B 1 n ps w w2 (nameB n) (nameB_len n) (HB.out.trans (hb2.mono HB.out.size)) (by simp [oneT]) (by omega)⟩
  by_cases h2 : k = 2
  · subst h2
    have hp := one_pc B 2 n ps w (w.alloc (.cells #[.int .i64 2, .int .i64 n, .slice u1 u2 u3] 25)) [105, 110, 116] (by simp) hb (by simp [oneT]) (by omega)
    rw [World.size_alloc] at hp
    have HP := Lib.hid hp
    clear hp hok hps ht hb
    go_wp2_with fail
    go_ret
    exact ⟨_, rfl, HP.out⟩
  by_cases h3 : k = 3
  · subst h3
    have hp := one_pc B 3 n ps w (w.alloc (.cells #[.int .i64 3, .int .i64 n, .slice u1 u2 u3] 25)) [98, 111, 111, 108] (by simp) hb (by simp [oneT]) (by omega)
    rw [World.size_alloc] at hp
    have HP := Lib.hid hp
    clear hp hok hps ht hb
    go_wp2_with fail
    go_ret
    exact ⟨_, rfl, HP.out⟩
  by_cases h5 : k = 5
  · subst h5
    obtain ⟨ha, ho⟩ := hok.resolve_left (by rintro ⟨h, _⟩; omega)
    have HC := Lib.hid (tuple_any ps (.slice u1 u2 u3) (w.alloc (.cells #[.int .i64 5, .int .i64 n, .slice u1 u2 u3] 25)) (hps.keep (Nat.le_trans hB_ hb.size) fun b off hlt => hb.cell (p := ⟨b, off, none⟩) (Nat.lt_of_lt_of_le hlt hB_)) (by omega))
    have hfin : ∀ (v : Value) (w2 : World), w2.ownsRow (w.alloc (.cells #[.int .i64 5, .int .i64 n, .slice u1 u2 u3] 25)).heap.size 84 4 v ([pcS [40]] ++ tupT true ps ++ [pcS [41]]).length (([pcS [40]] ++ tupT true ps ++ [pcS [41]]).flatMap pcC) → Below (w.alloc (.cells #[.int .i64 5, .int .i64 n, .slice u1 u2 u3] 25)).heap.size (w.alloc (.cells #[.int .i64 5, .int .i64 n, .slice u1 u2 u3] 25)) w2 → PcsOf B 5 n ps w w2 v := by
      intro v w2 hown hb2
      refine ⟨_, ⟨hown.1, ?_⟩, hb.trans (hb2.mono hb.size), ?_, ?_, ?_, by have := tupT_len ps true; simp; omega⟩
      · rcases hown.2 with h | ⟨g, cp, cur, h1, h2, h3⟩
        · exact .inl h
        · exact .inr ⟨g, cp, cur, h1, Nat.le_trans hb.size h2, h3⟩
      · rw [List.flatMap_append, List.flatMap_append, (tupT_txt ps).1]
        simp [oneT, ptx]
      · rw [pws_app, pws_app, if_neg (by omega)]
        have := tupT_pw ps true
        simp [pws, pw] at this ⊢
        omega
      · intro p hp
        rcases List.mem_append.1 hp with hp | hp
        · rcases List.mem_append.1 hp with hp | hp
          · obtain rfl := List.mem_singleton.1 hp
            exact PcOk.str _ _ _ (by simp)
          · exact tupT_ok hps.list ho true p hp
        · obtain rfl := List.mem_singleton.1 hp
          exact PcOk.str _ _ _ (by simp)
    have HF := Lib.hid hfin
    clear hfin hps hok ha ho ht hb
    go_wp2_with (go_at_call 71; refine HC.out.mono ?_; rintro e w2 ⟨v, rfl, hown, hb2⟩)
    go_ret
    exact ⟨_, rfl, HF.out _ _ hown hb2⟩
  rcases hok with ⟨h0, rfl⟩ | ⟨h6, _⟩
  · subst h0
    have hp : PcsOf B 0 n .nil w (w.alloc (.cells #[.int .i64 0, .int .i64 n, .slice u1 u2 u3] 25)) (.slice none 0 0) := ⟨[], ⟨rfl, .inl ⟨rfl, rfl⟩⟩, hb, by simp [oneT], by simp [pws], (fun p hp => by cases hp), by simp⟩
    have HP := Lib.hid hp
    clear hp hps ht hb h1 h2 h3 h4 h5
    go_wp2_with fail
    go_ret
    exact ⟨_, rfl, HP.out⟩
  · exfalso
    simp [alone, h1, h2, h3, h4, h5] at h6
end Go.Proofs.YtifdbmdfkhnojaaDoor
