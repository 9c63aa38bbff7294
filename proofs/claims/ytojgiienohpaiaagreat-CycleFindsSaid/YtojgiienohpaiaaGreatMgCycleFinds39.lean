/- Texts of one proof, one behind the other. -/
import Derived.Test.YtojgiienohpaiaaGreatMgCycleFinds38
import Derived.Test.YtojgiienohpaiaaGreatMgCycleFinds34
namespace Go.Proofs.YtojgiienohpaiaaGreat
open Go.RowKit
open Un (rowI rowI_get Else own_else wp_world)
attribute [local go_sem] Oper.semAt_some
set_option maxRecDepth 100000
section CyXs
variable {D : Nat → Prop} {B : Nat} {w w' : World} {vm vs : Value} {M : List Rm} {G : List Gn} {cc : Nat → Nat} {i : Nat} {col ro : Nat → Nat} {kn : Kn} {E : List (Nat × Nat)}
theorem in_any (w : World) (v : Value) (C : List Nat) (n : Nat) (h : Rd w 1 v C.length (nums C)) (hl : C.length ≤ 1000000) :
    Calls Tryz.prog 18 #[v, .int .i64 (n : Nat)] w fun x w' => (∃ b : Bool, x = .returned (.bool b) ∧ (b = true ↔ n ∈ C)) ∧ Below w.heap.size w w' := by
  obtain ⟨A, c, rfl⟩ := h.form
  obtain ⟨q, hq⟩ : ∃ q, C.length = q := ⟨_, rfl⟩
  rw [hq] at h hl ⊢
  have H := Lib.hid (And.intro h hq)
  clear h hq
  go_enter Tryz.func18, Tryz.ntmps18
  go_wp2_with fail
  go_loopg [5] q (fun nn s wr => ∃ k : Nat, s = .int .i64 (k : Nat) ∧ k ≤ q ∧ q ≤ k + nn ∧ n ∉ C.take k ∧ Below w.heap.size w wr)
  case atStart => exact ⟨0, rfl, Nat.zero_le _, by omega, by simp, Below.refl _ _⟩
  case round =>
    obtain ⟨k, rfl, hk, hkn, hno, hb⟩ := hrel
    have HI := Lib.hid (And.intro hkn (And.intro hno hb))
    clear hkn hno hb
    by_cases hkl : k < q
    · have g1 : decide ((k : Int) < (q : Int)) = true := decide_eq_true (by omega)
      have g2 : decide (k < q) = true := decide_eq_true hkl
      obtain ⟨d, hd⟩ : ∃ d, C[k]? = some d := ⟨_, List.getElem?_eq_getElem (by rw [H.out.2]; exact hkl)⟩
      obtain ⟨b, off, cap, hv, hnc, _, hlt, hc⟩ := H.out.1.2.resolve_left (by rintro ⟨h, _⟩; omega)
      injection hv with e1 e2 e3
      subst e1
      clear e2 e3
      have y0 : wr.cell? ⟨b, off + k, none⟩ = some (.int .i64 (d : Nat)) := (HI.out.2.2.cell (p := ⟨b, off + k, none⟩) hlt).trans (hc k _ (nums_get hd))
      have HK := Lib.hid (And.intro hd hkl)
      clear hd hc hlt
      by_cases hdn : d = n
      · have g3 : ((d : Int) == (n : Int)) = true := by rw [hdn]; simp
        have g4 : (d == n) = true := by rw [hdn]; simp
        have HDN := Lib.hid hdn
        clear hdn
        go_wp2_with fail
        try (go_quiet (fail); go_wp2_with fail)
        go_ret
        exact ⟨⟨true, rfl, ⟨(fun _ => by rw [← HDN.out]; exact List.mem_of_getElem? HK.out.1), (fun _ => rfl)⟩⟩, by first | exact HI.out.2.2 | exact below_drewN HI.out.2.2 _⟩
      · have g3 : ((d : Int) == (n : Int)) = false := by simp; omega
        have g4 : (d == n) = false := by simpa using hdn
        have HDN := Lib.hid hdn
        clear hdn
        go_wp2_with fail
        try (go_quiet (fail); go_wp2_with fail)
        go_roundg (q - (k + 1))
        case rel => exact ⟨k + 1, by go_num, HK.out.2, by omega, by rw [List.take_add_one, HK.out.1]; simp only [Option.toList_some, List.mem_append, List.mem_singleton]; exact fun h => h.elim HI.out.2.1 fun h => HDN.out h.symm, by first | exact HI.out.2.2 | exact below_drewN HI.out.2.2 _⟩
        case measure => have h1 := HI.out.1; have h2 := HK.out.2; omega
    · have g1 : decide ((k : Int) < (q : Int)) = false := decide_eq_false (by omega)
      have g2 : decide (k < q) = false := decide_eq_false hkl
      have hke : C.take k = C := List.take_of_length_le (by have := H.out.2; omega)
      have HKE := Lib.hid hke
      clear hke
      go_wp2_with fail
      go_ret
      exact ⟨⟨false, rfl, ⟨(fun h => by cases h), (fun h => absurd h (by have := HI.out.2.1; rw [HKE.out] at this; exact this))⟩⟩, HI.out.2.2⟩
set_option maxHeartbeats 4000000 in
theorem loop_any (hB : Both G col ro kn E cc) (hg : Gp G) (h : An3 D B w vm vs M G cc) (hl : G.length ≤ 10000) (hi : i < G.length) :
    Calls Tryz.prog 16 #[.agg #[vm, vs], .int .i64 (i : Nat)] w fun x w' => (∃ b : Bool, x = .returned (.bool b) ∧ (b = true ↔ Cp G cc (cc i) (cc i))) ∧ Below w.heap.size w w' := by
  have hlen := h.len
  obtain ⟨Am, cm, rfl⟩ := h.row.form
  obtain ⟨As, cs, rfl, _, _⟩ := Un.own_form h.col
  obtain ⟨Q, hQ⟩ : ∃ Q, M.length = Q := ⟨_, rfl⟩
  rw [hQ] at h hlen ⊢
  obtain ⟨w0, hw0⟩ : ∃ w0, w.alloc (.cells #[.slice Am Q cm, .slice As Q cs] 33) = w0 := ⟨_, rfl⟩
  have hb0 : Below w.heap.size w w0 := by rw [← hw0]; exact (Below.refl _ _).alloc (Nat.le_refl _) _
  have hx0 : w0.heap[w.heap.size]? = some (.cells #[.slice Am Q cm, .slice As Q cs] 33) := by rw [← hw0]; exact heap_alloc_new _ _
  have HCM := Lib.hid (comes_any hB hg (h.below hb0) hl hi)
  have x0 : w0.cell? ⟨w.heap.size, 0, none⟩ = some (.slice Am Q cm) := cell_of_row w0 _ 0 _ _ (0, 0) hx0
  have x1 : w0.cell? ⟨w.heap.size, 1, none⟩ = some (.slice As Q cs) := cell_of_row w0 _ 1 _ _ (0, 0) hx0
  have hcol : w0.ownsRow B 3 1 (.slice As Q cs) Q (rowI Q cc) := by have h1 := (h.below hb0).col; rw [hQ] at h1; exact h1
  have hiQ : i < Q := by omega
  have H := Lib.hid (And.intro hb0 (And.intro hx0 hcol))
  have HW0 := Lib.hid hw0
  clear h hb0 hx0 hlen hw0 hB hg hQ hcol hi
  go_enter Tryz.func16, Tryz.ntmps16
  go_upto_region 1 with fail
  rw [HW0.out]
  go_wp2_with fail
  refine HCM.out.mono ?_
  clear HCM
  rintro x w1 ⟨v1, C, rfl, ho1, hC, hCl, hb1⟩
  obtain ⟨A1, c1, rfl, _, _⟩ := Un.own_form ho1
  obtain ⟨q, hq⟩ : ∃ q, C.length = q := ⟨_, rfl⟩
  rw [hq] at ho1 hCl ⊢
  obtain ⟨bs, cs_, hsh, _, hbsl⟩ := Un.own_shape H.out.2.2 (by omega)
  injection hsh with hA1 hA2 hcc1
  subst hA1
  clear hA2 hcc1
  have FX : Hid (∀ W, Below w1.heap.size w1 W → W.cell? ⟨bs, i, none⟩ = some (.int .i64 (cc i : Nat)) ∧ W.cell? ⟨w.heap.size, 1, none⟩ = some (.slice (some ⟨bs, 0, none⟩) Q cs)) := Lib.hid fun W hW => by
    have hb := hb1.trans (hW.mono hb1.size)
    have hx := (hb.block _ (Array.getElem?_eq_some_iff.1 H.out.2.1).1).trans H.out.2.1
    exact ⟨(hb.cell (p := ⟨bs, i, none⟩) hbsl).trans ((H.out.2.2.cellAt i (by omega)).trans (rowI_get hiQ)), cell_of_row W _ 1 _ _ (0, 0) hx⟩
  have H1 := Lib.hid (And.intro ho1 (And.intro hC (And.intro hb1 hq)))
  clear ho1 hC hb1 hq hbsl x0 x1
  go_wp2_with fail
  go_loopg [6] q (fun nn s wr => ∃ k : Nat, s = .int .i64 (k : Nat) ∧ k ≤ q ∧ q ≤ k + nn ∧ cc i ∉ C.take k ∧ Below w1.heap.size w1 wr)
  case atStart => exact ⟨0, rfl, Nat.zero_le _, by omega, by simp, Below.refl _ _⟩
  case round =>
    obtain ⟨k, rfl, hk, hkn, hno, hb⟩ := hrel
    obtain ⟨y1, y2⟩ := FX.out wr hb
    have HI := Lib.hid (And.intro hkn (And.intro hno hb))
    have hbt : Below w.heap.size w wr := H.out.1.trans ((H1.out.2.2.1.trans (hb.mono H1.out.2.2.1.size)).mono H.out.1.size)
    have HBT := Lib.hid hbt
    clear hkn hno hb hbt
    by_cases hkl : k < q
    · have g1 : decide ((k : Int) < (q : Int)) = true := decide_eq_true (by omega)
      have g2 : decide (k < q) = true := decide_eq_true hkl
      obtain ⟨d, hd⟩ : ∃ d, C[k]? = some d := ⟨_, List.getElem?_eq_getElem (by rw [H1.out.2.2.2]; exact hkl)⟩
      obtain ⟨bo, co_, hsh2, _, hbo⟩ := Un.own_shape H1.out.1 (by omega)
      injection hsh2 with e1 e2 e3
      subst e1
      clear e2 e3
      have y0 : wr.cell? ⟨bo, k, none⟩ = some (.int .i64 (d : Nat)) := (HI.out.2.2.cell (p := ⟨bo, k, none⟩) hbo).trans ((H1.out.1.cellAt k (by rw [Nat.mul_one]; exact hkl)).trans (nums_get hd))
      have HK := Lib.hid (And.intro hd hkl)
      clear hd hbo
      by_cases hdn : d = cc i
      · have g3 : ((d : Int) == (cc i : Int)) = true := by rw [hdn]; simp
        have g4 : (d == cc i) = true := by rw [hdn]; simp
        have HDN := Lib.hid hdn
        clear hdn
        go_wp2_with fail
        go_quiet (fail)
        go_wp2_with fail
        go_ret
        exact ⟨⟨true, rfl, ⟨(fun _ => (H1.out.2.1 _).1 (by rw [← HDN.out]; exact List.mem_of_getElem? HK.out.1)), (fun _ => rfl)⟩⟩, below_drewN HBT.out _⟩
      · have g3 : ((d : Int) == (cc i : Int)) = false := by simp; omega
        have g4 : (d == cc i) = false := by simpa using hdn
        have HDN := Lib.hid hdn
        clear hdn
        go_wp2_with fail
        go_quiet (fail)
        go_wp2_with fail
        go_roundg (q - (k + 1))
        case rel => exact ⟨k + 1, by go_num, HK.out.2, by omega, by rw [List.take_add_one, HK.out.1]; simp only [Option.toList_some, List.mem_append, List.mem_singleton]; exact fun h => h.elim HI.out.2.1 fun h => HDN.out h.symm, below_drewN HI.out.2.2 _⟩
        case measure => have h1 := HI.out.1; have h2 := HK.out.2; omega
    · have g1 : decide ((k : Int) < (q : Int)) = false := decide_eq_false (by omega)
      have g2 : decide (k < q) = false := decide_eq_false hkl
      have hke : C.take k = C := List.take_of_length_le (by have := H1.out.2.2.2; omega)
      have HKE := Lib.hid hke
      clear hke
      go_wp2_with fail
      go_ret
      exact ⟨⟨false, rfl, ⟨(fun h => by cases h), (fun h => absurd ((H1.out.2.1 _).2 h) (by have := HI.out.2.1; rw [HKE.out] at this; exact this))⟩⟩, HBT.out⟩
set_option maxHeartbeats 4000000 in
theorem finite3_any (hB : Both G col ro kn E cc) (hg : Gp G) (h : An3 D B w vm vs M G cc) (hl : G.length ≤ 10000) :
    Calls Tryz.prog 20 #[.agg #[vm, vs]] w fun x w' => (∃ b : Bool, x = .returned (.bool b) ∧ (b = true ↔ ∀ i, i < G.length → ¬ Cp G cc (cc i) (cc i))) ∧ Below w.heap.size w w' := by
  have hlen := h.len
  obtain ⟨Am, cm, rfl⟩ := h.row.form
  obtain ⟨As, cs, rfl, _, _⟩ := Un.own_form h.col
  obtain ⟨Q, hQ⟩ : ∃ Q, M.length = Q := ⟨_, rfl⟩
  rw [hQ] at h hlen ⊢
  obtain ⟨w0, hw0⟩ : ∃ w0, w.alloc (.cells #[.slice Am Q cm, .slice As Q cs] 33) = w0 := ⟨_, rfl⟩
  have hb0 : Below w.heap.size w w0 := by rw [← hw0]; exact (Below.refl _ _).alloc (Nat.le_refl _) _
  have hx0 : w0.heap[w.heap.size]? = some (.cells #[.slice Am Q cm, .slice As Q cs] 33) := by rw [← hw0]; exact heap_alloc_new _ _
  have hQ5 : Q ≤ 10000 := by omega
  have H := Lib.hid (And.intro hb0 (And.intro hx0 (And.intro (h.below hb0) (And.intro hlen (And.intro hl (And.intro hB hg))))))
  have HW0 := Lib.hid hw0
  clear h hb0 hx0 hlen hw0 hl hB hg hQ
  go_enter Tryz.func20, Tryz.ntmps20
  go_upto_region 1 with fail
  rw [HW0.out]
  go_wp2_with fail
  go_loopg [3] Q (fun nn s wr => ∃ k : Nat, s = .int .i64 (k : Nat) ∧ k ≤ Q ∧ Q ≤ k + nn ∧ (∀ i, i < k → ¬ Cp G cc (cc i) (cc i)) ∧ Below w0.heap.size w0 wr)
  case atStart => exact ⟨0, rfl, Nat.zero_le _, by omega, fun i hi => by omega, Below.refl _ _⟩
  case round =>
    obtain ⟨k, rfl, hk, hkn, hno, hb⟩ := hrel
    have hx := (hb.block _ (Array.getElem?_eq_some_iff.1 H.out.2.1).1).trans H.out.2.1
    have y0 : wr.cell? ⟨w.heap.size, 0, none⟩ = some (.slice Am Q cm) := cell_of_row wr _ 0 _ _ (0, 0) hx
    have y1 : wr.cell? ⟨w.heap.size, 1, none⟩ = some (.slice As Q cs) := cell_of_row wr _ 1 _ _ (0, 0) hx
    have HI := Lib.hid (And.intro hkn (And.intro hno hb))
    have hbt : Below w.heap.size w wr := H.out.1.trans (hb.mono H.out.1.size)
    have HBT := Lib.hid hbt
    clear hkn hno hb hbt hx
    by_cases hkl : k < Q
    · have g1 : decide ((k : Int) < (Q : Int)) = true := decide_eq_true (by omega)
      have g2 : decide (k < Q) = true := decide_eq_true hkl
      have HLP := Lib.hid (loop_any H.out.2.2.2.2.2.1 H.out.2.2.2.2.2.2 (H.out.2.2.1.below HI.out.2.2) H.out.2.2.2.2.1 (i := k) (by have := H.out.2.2.2.1; omega))
      have HK := Lib.hid hkl
      go_wp2_with fail
      refine HLP.out.mono ?_
      clear HLP
      rintro x w2 ⟨⟨b, rfl, hb⟩, hb2⟩
      have H2 := Lib.hid (And.intro hb hb2)
      clear hb hb2
      cases b with
      | true =>
        go_wp2_with fail
        go_ret
        exact ⟨⟨false, rfl, ⟨(fun h => by cases h), (fun h => absurd (H2.out.1.1 (by trivial)) (h k (by have := H.out.2.2.2.1; have := HK.out; omega)))⟩⟩, HBT.out.trans (H2.out.2.mono HBT.out.size)⟩
      | false =>
        go_wp2_with fail
        go_roundg (Q - (k + 1))
        case rel => exact ⟨k + 1, by go_num, HK.out, by omega, (fun i hi => by
          rcases Nat.lt_or_ge i k with h1 | h1
          · exact HI.out.2.1 i h1
          · obtain rfl : i = k := by omega
            exact fun h => by have := H2.out.1.2 h; cases this), HI.out.2.2.trans (H2.out.2.mono HI.out.2.2.size)⟩
        case measure => have h1 := HI.out.1; have h2 := HK.out; omega
    · have g1 : decide ((k : Int) < (Q : Int)) = false := decide_eq_false (by omega)
      have g2 : decide (k < Q) = false := decide_eq_false hkl
      have hke : k = G.length := by have := H.out.2.2.2.1; omega
      have HKE := Lib.hid hke
      clear hke
      go_wp2_with fail
      go_ret
      exact ⟨⟨true, rfl, ⟨(fun _ i hi => HI.out.2.1 i (by rw [HKE.out]; exact hi)), (fun _ => rfl)⟩⟩, HBT.out⟩
end CyXs
end Go.Proofs.YtojgiienohpaiaaGreat
namespace Go.Proofs.YtojgiienohpaiaaGreat
open Go.RowKit
open Un (rowI rowI_get Else own_else wp_world)
attribute [local go_sem] Oper.semAt_some
set_option maxRecDepth 100000
section CyYs
variable {D : Nat → Prop} {B : Nat} {w w' : World} {vm vs : Value} {M : List Rm} {G : List Gn} {cc : Nat → Nat} {i : Nat} {col ro : Nat → Nat} {kn : Kn} {E : List (Nat × Nat)}
theorem An3.of_rg {BT : Nat} (h : Rg D BT w vm M G) (hs : w.ownsRow B 3 1 vs G.length (rowI G.length cc)) : An3 D B w vm vs M G cc :=
  ⟨h.1.row, fun x hx => (h.1.nodes x hx).2, by rw [h.len]; exact hs, h.rows, h.2.1⟩
theorem clash3 (h : An3 D B w vm vs M G cc) (hl : G.length ≤ 10000) (hc : Rc G cc E) (he : ∀ a b, (a, b) ∈ E → a < G.length ∧ b < G.length ∧ cc a = cc b) (hd : ClosedC G cc) :
    Calls Tryz.prog 11 #[.agg #[vm, vs]] w fun e w' => (∃ b : Bool, e = .returned (.bool b) ∧ (b = true ↔ Clash G E)) ∧ Below w.heap.size w w' := by
  have hlen := h.len
  rcases Nat.eq_zero_or_pos G.length with h0 | h0
  · obtain ⟨Am, cm, rfl⟩ := h.row.form
    obtain ⟨As, cs, rfl, _, _⟩ := Un.own_form h.col
    have hno : ¬ Clash G E := fun ⟨x, y, p, q, h1, h2, _⟩ => by have := lt_of_get h2; omega
    have hM0 : M.length = 0 := by omega
    rw [hM0]
    obtain ⟨w0, hw0⟩ : ∃ w0, w.alloc (.cells #[.slice Am 0 cm, .slice As 0 cs] 33) = w0 := ⟨_, rfl⟩
    have hb0 : Below w.heap.size w w0 := by rw [← hw0]; exact (Below.refl _ _).alloc (Nat.le_refl _) _
    have hx0 : w0.heap[w.heap.size]? = some (.cells #[.slice Am 0 cm, .slice As 0 cs] 33) := by rw [← hw0]; exact heap_alloc_new _ _
    have x0 : w0.cell? ⟨w.heap.size, 0, none⟩ = some (.slice Am 0 cm) := cell_of_row w0 _ 0 _ _ (0, 0) hx0
    have H := Lib.hid (And.intro hb0 hno)
    have HW0 := Lib.hid hw0
    clear h hc he hd hlen h0 hl hb0 hx0 hno hM0 hw0
    go_enter Tryz.func11, Tryz.ntmps11
    go_upto_region 1 with fail
    rw [HW0.out]
    go_wp2_with fail
    refine wp_loop_rounds 1 ?_
    rw [rounds_succ]
    go_wp2_with fail
    go_ret
    exact ⟨⟨false, rfl, ⟨(fun h => by cases h), (fun h => absurd h H.out.2)⟩⟩, H.out.1⟩
  · refine (rclash_any w M vm vs cc B h.row.1 h.lens h.col (by omega) (by omega)).mono ?_
    rintro e w' ⟨b, rfl, hb, hw⟩
    refine ⟨⟨b, rfl, hb.trans ?_⟩, hw⟩
    rw [hc.clash he hd, h.gm]
    constructor
    · rintro ⟨x, y, hyx, p, q, h1, h2, h3⟩
      exact ⟨x, y, p, q, h1, h2, hyx, h3⟩
    · rintro ⟨x, y, p, q, h1, h2, hyx, h3⟩
      exact ⟨x, y, hyx, p, q, h1, h2, h3⟩
variable {O : Nat → Prop} {cb b : Nat} {s : Sys}
theorem count_clo (h : Clo O w cb s b) (hb : b ≤ 49) (hl : s.1.length ≤ 8000) (hgn : GN s.1) (hgl : GL s.1) :
    Calls Tryz.prog 10 #[.pointer (some ⟨cb, 0, none⟩)] w fun x w' => (∃ (t : Bool) (q : Nat), x = .returned (.tuple #[.bool t, .int .i64 (q : Nat)]) ∧ (t = true ↔ ¬ Clash s.1 s.2 ∧ FinC s.1 s.2) ∧ q ≤ 35 * s.1.length + 1) ∧ Clo O w' cb s (b + 1) ∧ Else O w w' := by
  rcases h with ⟨st, fs, m, hC, h1, h2, h3, h4⟩ | ⟨hc, hO, hlt, st, hx⟩
  · refine (count_cs hC (by omega) (by omega) hgn hgl).mono ?_
    rintro x w' ⟨t, q, k, rfl, ht, hq, hk, hC', hE⟩
    exact ⟨⟨t, q, rfl, ht.trans ⟨fun hf => ⟨hC.noClash, hf⟩, fun hf => hf.2⟩, hq⟩, .inl ⟨st, _, m, hC', h1, by omega, by omega, by push_cast; omega⟩, hE⟩
  · have hV : ∀ W, Below w.heap.size w W → Calls Tryz.prog 41 #[.pointer (some ⟨cb, 0, none⟩)] W fun x W' => x = .returned (.slice none 0 0) ∧ Below W.heap.size W W' := fun W hW => vars_clash ((hW.block _ hlt).trans hx)
    refine (count_empty 7 (by omega) (err_cx hx) hV).mono ?_
    rintro x w' ⟨rfl, hB⟩
    exact ⟨⟨false, 0, rfl, ⟨(fun h => by cases h), (fun h => absurd hc h.1)⟩, Nat.zero_le _⟩, .inr ⟨hc, hO, Nat.lt_of_lt_of_le hlt hB.size, st, (hB.block _ hlt).trans hx⟩, Else.of_below hB⟩
theorem cyclic_clash (h : Clo O w cb s b) (hc : Clash s.1 s.2) : Calls Tryz.prog 13 #[.pointer (some ⟨cb, 0, none⟩)] w fun x w' => x = .returned (.slice none 0 0) ∧ Below w.heap.size w w' := by
  rcases h with ⟨st, fs, m, hC, _⟩ | ⟨_, hO, hlt, st, hx⟩
  · exact absurd hc hC.noClash
  · exact cyclic_empty fun W hW => vars_clash ((hW.block _ hlt).trans hx)
end CyYs
end Go.Proofs.YtojgiienohpaiaaGreat
