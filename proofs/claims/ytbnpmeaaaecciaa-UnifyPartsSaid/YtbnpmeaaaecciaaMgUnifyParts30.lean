/- Texts of one proof, one behind the other. -/
import Derived.Test.YtbnpmeaaaecciaaMgUnifyParts29
import Derived.IntWalk
/- UnifyParts: parts, walked. -/
namespace Go.Proofs.Ytbnpmeaaaecciaa
open Go.RowKit
open Un (rowI rowI_get own_shape paint Else own_else dg)
attribute [local go_sem] Oper.semAt_some
attribute [local go_sem ↓] builtin_app
set_option maxRecDepth 100000
/-- The answer's nodes and colors as they lie, on blocks of which D holds. -/
structure AnM (D : Nat → Prop) (B : Nat) (w : World) (vm vs : Value) (M : List Rm) (cc : Nat → Nat) : Prop where
  row : RdD D w 4 vm M.length (M.flatMap rmC)
  nodes : ∀ x ∈ M, RdD D w 1 (slv x.2) x.1.2.2.2.2.length (nums x.1.2.2.2.2)
  col : w.ownsRow B 3 1 vs M.length (rowI M.length cc)
section PaCs
variable {D : Nat → Prop} {B : Nat} {w w' : World} {vm vs : Value} {M : List Rm} {cc : Nat → Nat}
theorem AnM.to (h : AnM D B w vm vs M cc) {S : Nat → Prop} (he : Else S w w') (hD : ∀ k, S k → ¬ D k) (hB : ∀ k, S k → k < B) : AnM D B w' vm vs M cc :=
  ⟨h.row.to he.size fun b hd hlt => he.block b hlt fun hs => hD b hs hd, fun x hx => (h.nodes x hx).to he.size fun b hd hlt => he.block b hlt fun hs => hD b hs hd, own_else h.col he fun k hk hs => by have h1 := (h.col.lt k hk).1; have := hB k hs; omega⟩
/-- A node as it lies. -/
theorem AnM.node (h : AnM D B w vm vs M cc) (hN : ∀ x ∈ M, x.2.2.1 = x.1.2.2.2.2.length) (j : Nat) (hj : j < M.length) {b1 o1 n c : Nat} (hv : vm = .slice (some ⟨b1, o1, none⟩) n c) (R : Sl) (hR : M[j].2 = R) (p : Gn) (hp : (gM M)[j]? = some p) : R.2.1 = p.2.2.2.length ∧ w.cell? ⟨b1, o1 + j * 4 + 3, none⟩ = some (slv R) ∧
    ∀ (t a : Nat), p.2.2.2[t]? = some a → ∃ b' o', R.1 = some ⟨b', o', none⟩ ∧ w.cell? ⟨b', o' + t, none⟩ = some (.int .i64 (a : Nat)) := by
  obtain ⟨b1', o1', cap1, hv1, _, _, _, hc1⟩ := h.row.1.2.resolve_left (by rintro ⟨h, _⟩; omega)
  rw [hv] at hv1
  cases hv1
  obtain ⟨p0, p1, p2, p3⟩ := rmC_at M j hj
  have hn := h.nodes _ (List.getElem_mem hj)
  have hpe : p = rG M[j].1 := by
    have : (gM M)[j]? = some (rG M[j].1) := by simp [gM, hj]
    rw [hp] at this
    exact Option.some.inj this
  subst hpe
  rw [← hR]
  refine ⟨hN _ (List.getElem_mem hj), hc1 (j * 4 + 3) _ p3, fun t a hta => ?_⟩
  have hta : M[j].1.2.2.2.2[t]? = some a := hta
  have hlt := (List.getElem?_eq_some_iff.1 hta).1
  obtain ⟨b', o', cap', hv', _, _, _, hc'⟩ := hn.1.2.resolve_left (by rintro ⟨h, _⟩; omega)
  unfold slv at hv'
  injection hv' with e1 e2 e3
  refine ⟨b', o', e1, hc' t _ ?_⟩
  simp [nums, ints, toI, hta]
end PaCs
/-- What comes of parts. -/
def PsPost (O : Nat → Prop) (cb : Nat) (A : Adr) (st : Int) (G : List Gn) (kn : Kn) (nx col ro : Nat → Nat) (f : Int) (bd : Nat) (w : World) (e : Ending) (w' : World) : Prop :=
  ∃ k : Nat, e = .returned (.bool true) ∧ k ≤ bd ∧ ClM O w' cb A st false G.length G kn nx col ro (f + k) ∧ Else A.S w w'
/-- What parts owes, some deep. -/
def PartsOk (O : Nat → Prop) (cb : Nat) (A : Adr) (st : Int) (G : List Gn) (kn : Kn) (nx col ro : Nat → Nat) (D : Nat → Prop) (B : Nat) (vm vs : Value) (M : List Rm) (cc : Nat → Nat) (d : Nat) : Prop :=
  ∀ (w : World) (i : Nat) (f : Int), i < G.length → ClM O w cb A st false G.length G kn nx col ro f → 0 ≤ f → f + 100000 * (d : Nat) ≤ 1000000000 → AnM D B w vm vs M cc →
    Calls Try.prog 19 #[ptV (some cb) (ro i : Nat), .agg #[vm, vs], .int .i64 (i : Nat), .int .i64 (d : Nat)] w (PsPost O cb A st G kn nx col ro f (200 * 9 ^ d) w)
set_option maxHeartbeats 8000000 in
theorem parts_step {O : Nat → Prop} {cb : Nat} {A : Adr} {st : Int} {G : List Gn} {kn : Kn} {nx col ro : Nat → Nat} {D : Nat → Prop} {B : Nat} {vm vs : Value} {M : List Rm} {cc : Nat → Nat} {E : List (Nat × Nat)} (hb : Both G col ro kn E cc) (hgp : Gp G) (hG : G.length ≤ 160) (hM : gM M = G) (hml : M.length = G.length) (hN : ∀ x ∈ M, x.2.2.1 = x.1.2.2.2.2.length) (hD : ∀ k, A.S k → ¬ D k) (hB : ∀ k, A.S k → k < B) (d : Nat) (hd : d ≤ 2)
    (ih : ∀ d', d = d' + 1 → PartsOk O cb A st G kn nx col ro D B vm vs M cc d') : PartsOk O cb A st G kn nx col ro D B vm vs M cc d := by
  intro w i f hi hC hf0 hf1 hA
  obtain ⟨Am, cm, rfl⟩ := hA.row.1.form
  obtain ⟨As, cs, rfl⟩ := Un.row_form hA.col
  obtain ⟨N, hNN⟩ : ∃ N, M.length = N := ⟨_, rfl⟩
  have hwS : ∀ k, A.S k → k < w.heap.size := fun k hk => hC.lt (.inr (.inl hk))
  obtain ⟨r, hr⟩ : ∃ r, ro i = r := ⟨_, rfl⟩
  have hrn : r < G.length := by rw [← hr]; exact (hb.js.rt i hi).1
  have FA : Hid (∀ W, Else A.S w W → AnM D B W (.slice Am M.length cm) (.slice As M.length cs) M cc) := Lib.hid fun W hE => hA.to hE hD hB
  rw [hNN] at FA ih ⊢
  rw [hr]
  obtain ⟨W0, hW0⟩ : ∃ W0, (w.alloc (.cells #[.pointer (some ⟨cb, 0, none⟩), .int .i64 (r : Nat)] 57)).alloc (.cells #[.slice Am N cm, .slice As N cs] 46) = W0 := ⟨_, rfl⟩
  have hb0 : Below w.heap.size w W0 := by rw [← hW0]; exact ((Below.refl _ _).alloc (Nat.le_refl _) _).alloc (by simp) _
  have hx0 : W0.heap[w.heap.size]? = some (Obj.cells #[.pointer (some ⟨cb, 0, none⟩), .int .i64 (r : Nat)] 57) := by rw [← hW0]; exact (Below.heap_alloc _ _ _ (by simp)).trans (heap_alloc_new _ _)
  have hx1 : W0.heap[w.heap.size + 1]? = some (Obj.cells #[.slice Am N cm, .slice As N cs] 46) := by rw [← hW0]; have h := heap_alloc_new (w.alloc (.cells #[.pointer (some ⟨cb, 0, none⟩), .int .i64 (r : Nat)] 57)) (.cells #[.slice Am N cm, .slice As N cs] 46); simpa using h
  have hE0 : Else A.S w W0 := Else.of_below hb0
  have EB : Hid (∀ W, Else A.S W0 W → W.cell? ⟨w.heap.size, 0, none⟩ = some (.pointer (some ⟨cb, 0, none⟩)) ∧ W.cell? ⟨w.heap.size, 1, none⟩ = some (.int .i64 (r : Nat)) ∧ W.cell? ⟨w.heap.size + 1, 0, none⟩ = some (.slice Am N cm) ∧ W.cell? ⟨w.heap.size + 1, 1, none⟩ = some (.slice As N cs)) := Lib.hid fun W hE => by
    have h0 := (hE.block _ (Array.getElem?_eq_some_iff.1 hx0).1 fun hs => by have := hwS _ hs; omega).trans hx0
    have h1 := (hE.block _ (Array.getElem?_eq_some_iff.1 hx1).1 fun hs => by have := hwS _ hs; omega).trans hx1
    exact ⟨cell_of_row W _ 0 _ _ (0, 0) h0, cell_of_row W _ 1 _ _ (0, 0) h0, cell_of_row W _ 0 _ _ (0, 0) h1, cell_of_row W _ 1 _ _ (0, 0) h1⟩
  have hiN : i < N := by omega
  have HRC := rclass_any W0 M (.slice Am N cm) (.slice As N cs) cc B (FA.out W0 hE0).row.1 (FA.out W0 hE0).col (by omega) i (by omega)
  obtain ⟨L, hL⟩ : ∃ L, (vsort G).filter (selC G cc i) = L := ⟨_, rfl⟩
  rw [hM, hL] at HRC
  have hlv := hb.least hi
  rw [hL, hr] at hlv
  obtain ⟨lv, hlv2⟩ : ∃ lv, leastV G (kn r).2 = lv := ⟨_, rfl⟩
  rw [hlv2] at hlv
  have hLl : L.length ≤ 160 := by rw [← hL]; exact Nat.le_trans (List.length_filter_le _ _) (Nat.le_trans (vsort_len G) hG)
  have H := Lib.hid (And.intro hb (And.intro hgp (And.intro hG (And.intro hM (And.intro hml (And.intro hN (And.intro hd ih)))))))
  have HC := Lib.hid (And.intro hC (And.intro hf0 (And.intro hf1 (And.intro hb0 (And.intro hE0 (And.intro hr hlv2))))))
  have HL := Lib.hid (And.intro hlv hLl)
  have HR := Lib.hid (And.intro hi (And.intro hrn (And.intro hiN hNN)))
  have HCA := Lib.hid HRC
  obtain ⟨x0, x1, y0, y1⟩ := EB.out W0 (Else.refl _ _)
  clear hb hgp hG hM hml hN hd ih hC hf0 hf1 hA hwS hb0 hx0 hx1 hE0 HRC hL hlv hlv2 hLl hD hB hr hi hrn hiN hNN
  unfold ptV
  go_enter Try.func19, Try.ntmps19
  go_wp2_with fail
  refine HCA.out.mono ?_
  clear HCA
  rintro e w1 ⟨v1, rfl, hv1, hb1⟩
  obtain ⟨A1, c1, rfl⟩ := hv1.form
  have HV1 := Lib.hid (And.intro hv1 hb1)
  clear hv1 hb1 x0 x1 y0 y1 hW0
  go_upto_if 19 with fail
  go_cut [9] (fun s9 wx => s9 = .int .i64 lv ∧ wx = w1)
  case first =>
    cases L with
    | nil =>
      have e9 : lv = -1 := HL.out.1
      subst e9
      simp only [List.length_nil]
      go_wp2_with fail
      go_meet
      exact ⟨rfl, rfl⟩
    | cons a L =>
      have e9 : lv = a := HL.out.1
      subst e9
      obtain ⟨bv, ov, rfl, _, z0⟩ := HV1.out.1.int_at 0 lv rfl
      have z0 : w1.cell? ⟨bv, ov, none⟩ = some (.int .i64 lv) := z0
      have hl9 := HL.out.2
      simp only [List.length_cons] at hl9 ⊢
      have t1 : decide ((0 : Int) < ((L.length + 1 : Nat) : Int)) = true := decide_eq_true (by omega)
      go_wp2_with fail
      go_meet
      exact ⟨rfl, rfl⟩
  case rest =>
    obtain ⟨rfl, hwc⟩ := hcut
    have hwc := hwc.symm
    subst hwc
    have hbw1 : Below w.heap.size w w1 := HC.out.2.2.2.1.trans (HV1.out.2.mono HC.out.2.2.2.1.size)
    have HW1 := Lib.hid hbw1
    have EX : Hid (∀ W, Below w1.heap.size w1 W → W.cell? ⟨w.heap.size, 0, none⟩ = some (.pointer (some ⟨cb, 0, none⟩)) ∧ W.cell? ⟨w.heap.size, 1, none⟩ = some (.int .i64 (r : Nat)) ∧ W.cell? ⟨w.heap.size + 1, 0, none⟩ = some (.slice Am N cm) ∧ W.cell? ⟨w.heap.size + 1, 1, none⟩ = some (.slice As N cs)) := Lib.hid fun W hW => EB.out W (Else.of_below (HV1.out.2.trans (hW.mono HV1.out.2.size)))
    have HCW : Hid (∀ W, Below w1.heap.size w1 W → ClM O W cb A st false G.length G kn nx col ro f ∧ AnM D B W (.slice Am N cm) (.slice As N cs) M cc) := Lib.hid fun W hW => by
      have hw := HW1.out.trans (hW.mono HW1.out.size)
      exact ⟨HC.out.1.below hw, FA.out W (Else.of_below hw)⟩
    obtain ⟨kr, hkr⟩ : ∃ kr, kindO G (kn r).1 = kr := ⟨_, rfl⟩
    have HK1 : Hid (∀ W, Below w1.heap.size w1 W → Calls Try.prog 23 #[.agg #[.pointer (some ⟨cb, 0, none⟩), .int .i64 (r : Nat)]] W fun e w' => e = .returned (.int .i64 kr) ∧ Below W.heap.size W w') := Lib.hid fun W hW => by
      have h := pkind_cl (HCW.out W hW).1 r HR.out.2.1
      rw [hkr] at h
      exact h
    have HK2 : Hid (∀ W, Below w1.heap.size w1 W → Calls Try.prog 49 #[.agg #[.slice Am N cm, .slice As N cs], .int .i64 (i : Nat)] W fun e w' => e = .returned (.int .i64 kr) ∧ Below W.heap.size W w') := Lib.hid fun W hW => by
      have hA := (HCW.out W hW).2
      refine (rkind_any W M (.slice Am N cm) (.slice As N cs) cc B hA.row.1 hA.col (by have := HR.out.2.2.2; have := HR.out.2.2.1; have := H.out.2.2.1; have := H.out.2.2.2.2.1; omega) i (by have := HR.out.2.2.2; have := HR.out.2.2.1; omega)).mono ?_
      rintro e w' ⟨r', rfl, hr', hb'⟩
      rw [H.out.2.2.2.1] at hr'
      have := H.out.1.kind HR.out.1 hr'
      rw [HC.out.2.2.2.2.2.1, hkr] at this
      exact ⟨by rw [this], hb'⟩
    have HV2 : Hid (∀ W, Below w1.heap.size w1 W → Calls Try.prog 24 #[.agg #[.pointer (some ⟨cb, 0, none⟩), .int .i64 (r : Nat)]] W fun e w' => e = .returned (.int .i64 lv) ∧ Below W.heap.size W w') := Lib.hid fun W hW => by
      have h := pvar_cl (HCW.out W hW).1 r HR.out.2.1 (fun l hl => by
        have := HC.out.2.2.2.2.2.1
        subst this
        obtain ⟨_, h2, _⟩ := H.out.1.js.le.is i l HR.out.1 hl
        exact h2)
      rw [HC.out.2.2.2.2.2.2] at h
      exact h
    have HI2 : Hid (∀ W, Below w1.heap.size w1 W → Calls Try.prog 21 #[.agg #[.pointer (some ⟨cb, 0, none⟩), .int .i64 (r : Nat)]] W fun e w' => e = .returned (.int .i64 (r : Nat)) ∧ Below W.heap.size W w') := Lib.hid fun W hW => pid_cl (HCW.out W hW).1 r
    have t2 : decide ((r : Int) < 0) = false := decide_eq_false (by omega)
    have hS : Below w1.heap.size w1 w1.drew := (Below.refl _ _).drew
    clear hbw1 hkr
    go_wp2_with fail
    refine wp_region_held (S := (fun W => Below w1.heap.size w1 W)) (by kernel_rfl) ?_
    change wpAnyH _ _ _ _ _ 17 (List.replicate 17 false).toArray _ w1.drew
    simp only [List.replicate_succ, List.replicate_zero]
    refine any_take (i := 0) (some 23) (.agg #[.pointer (some ⟨cb, 0, none⟩), .int .i64 (r : Nat)]) rfl (by rfl) (by kernel_rfl) (by kernel_rfl) (by kernel_rfl) (fun _ _ _ h => h) (Or.inl ⟨by kernel_rfl, (fun W hw => by obtain ⟨n0_, n1_, n2_, n3_⟩ := EX.out W hw; clear hw; go_simp)⟩) hS ?_
    simp only [Act.put, List.setIfInBounds_toArray, List.set_cons_zero, List.set_cons_succ]
    refine any_take (i := 2) (some 25) (.agg #[.slice Am N cm, .slice As N cs]) rfl (by rfl) (by kernel_rfl) (by kernel_rfl) (by kernel_rfl) (fun _ _ _ h => h) (Or.inl ⟨by kernel_rfl, (fun W hw => by obtain ⟨n0_, n1_, n2_, n3_⟩ := EX.out W hw; clear hw; go_simp)⟩) hS ?_
    simp only [Act.put, List.setIfInBounds_toArray, List.set_cons_zero, List.set_cons_succ]
    refine any_take (i := 3) (some 26) (.int .i64 (i : Nat)) rfl (by rfl) (by kernel_rfl) (by kernel_rfl) (by kernel_rfl) (fun _ _ _ h => h) (Or.inl ⟨by kernel_rfl, (fun W hw => by clear hw; go_simp)⟩) hS ?_
    simp only [Act.put, List.setIfInBounds_toArray, List.set_cons_zero, List.set_cons_succ]
    refine wpAnyH_all (rs := [1]) (by kernel_rfl) (by simp) fun q' hq' => ?_
    obtain rfl : q' = 1 := by simpa using hq'
    refine ops_call (d := some 24) rfl (by rfl) (by kernel_rfl) (by go_simp) ((HK1.out _ hS).mono ?_)
    rintro e w2 ⟨rfl, hb2⟩
    have hS2 : Below w1.heap.size w1 w2 := hS.trans (hb2.mono hS.size)
    refine ⟨_, rfl, hS2, ?_⟩
    simp only [Act.put, List.setIfInBounds_toArray, List.set_cons_zero, List.set_cons_succ]
    refine wpAnyH_all (rs := [4]) (by kernel_rfl) (by simp) fun q' hq' => ?_
    obtain rfl : q' = 4 := by simpa using hq'
    refine ops_call (d := some 27) rfl (by rfl) (by kernel_rfl) (by go_simp) ((HK2.out _ hS2).mono ?_)
    rintro e w3 ⟨rfl, hb3⟩
    have hS3 : Below w1.heap.size w1 w3 := hS2.trans (hb3.mono hS2.size)
    refine ⟨_, rfl, hS3, ?_⟩
    simp only [Act.put, List.setIfInBounds_toArray, List.set_cons_zero, List.set_cons_succ]
    refine any_take (i := 5) (some 28) (.bool false) rfl (by rfl) (by kernel_rfl) (by kernel_rfl) (by kernel_rfl) (fun _ _ _ h => h) (Or.inl ⟨by kernel_rfl, (fun W hw => by clear hw; go_simp)⟩) hS3 ?_
    simp only [Act.put, List.setIfInBounds_toArray, List.set_cons_zero, List.set_cons_succ]
    refine any_take (i := 6) (some 29) (.bool false) rfl (by rfl) (by kernel_rfl) (by kernel_rfl) (by kernel_rfl) (fun _ _ _ h => h) (Or.inl ⟨by kernel_rfl, (fun W hw => by clear hw; go_simp)⟩) hS3 ?_
    simp only [Act.put, List.setIfInBounds_toArray, List.set_cons_zero, List.set_cons_succ]
    refine any_take (i := 7) (some 30) (.agg #[.pointer (some ⟨cb, 0, none⟩), .int .i64 (r : Nat)]) rfl (by rfl) (by kernel_rfl) (by kernel_rfl) (by kernel_rfl) (fun _ _ _ h => h) (Or.inl ⟨by kernel_rfl, (fun W hw => by obtain ⟨n0_, n1_, n2_, n3_⟩ := EX.out W hw; clear hw; go_simp)⟩) hS3 ?_
    simp only [Act.put, List.setIfInBounds_toArray, List.set_cons_zero, List.set_cons_succ]
    refine any_take (i := 9) (some 32) (.int .i64 lv) rfl (by rfl) (by kernel_rfl) (by kernel_rfl) (by kernel_rfl) (fun _ _ _ h => h) (Or.inl ⟨by kernel_rfl, (fun W hw => by clear hw; go_simp)⟩) hS3 ?_
    simp only [Act.put, List.setIfInBounds_toArray, List.set_cons_zero, List.set_cons_succ]
    refine wpAnyH_all (rs := [8]) (by kernel_rfl) (by simp) fun q' hq' => ?_
    obtain rfl : q' = 8 := by simpa using hq'
    refine ops_call (d := some 31) rfl (by rfl) (by kernel_rfl) (by go_simp) ((HV2.out _ hS3).mono ?_)
    rintro e w4 ⟨rfl, hb4⟩
    have hS4 : Below w1.heap.size w1 w4 := hS3.trans (hb4.mono hS3.size)
    refine ⟨_, rfl, hS4, ?_⟩
    simp only [Act.put, List.setIfInBounds_toArray, List.set_cons_zero, List.set_cons_succ]
    refine any_take (i := 10) (some 33) (.bool false) rfl (by rfl) (by kernel_rfl) (by kernel_rfl) (by kernel_rfl) (fun _ _ _ h => h) (Or.inl ⟨by kernel_rfl, (fun W hw => by clear hw; go_simp)⟩) hS4 ?_
    simp only [Act.put, List.setIfInBounds_toArray, List.set_cons_zero, List.set_cons_succ]
    refine any_take (i := 11) (some 34) (.bool false) rfl (by rfl) (by kernel_rfl) (by kernel_rfl) (by kernel_rfl) (fun _ _ _ h => h) (Or.inl ⟨by kernel_rfl, (fun W hw => by clear hw; go_simp)⟩) hS4 ?_
    simp only [Act.put, List.setIfInBounds_toArray, List.set_cons_zero, List.set_cons_succ]
    refine any_take (i := 12) (some 35) (.bool false) rfl (by rfl) (by kernel_rfl) (by kernel_rfl) (by kernel_rfl) (fun _ _ _ h => h) (Or.inl ⟨by kernel_rfl, (fun W hw => by clear hw; go_simp)⟩) hS4 ?_
    simp only [Act.put, List.setIfInBounds_toArray, List.set_cons_zero, List.set_cons_succ]
    refine any_take (i := 13) (some 36) (.agg #[.pointer (some ⟨cb, 0, none⟩), .int .i64 (r : Nat)]) rfl (by rfl) (by kernel_rfl) (by kernel_rfl) (by kernel_rfl) (fun _ _ _ h => h) (Or.inl ⟨by kernel_rfl, (fun W hw => by obtain ⟨n0_, n1_, n2_, n3_⟩ := EX.out W hw; clear hw; go_simp)⟩) hS4 ?_
    simp only [Act.put, List.setIfInBounds_toArray, List.set_cons_zero, List.set_cons_succ]
    refine wpAnyH_all (rs := [14]) (by kernel_rfl) (by simp) fun q' hq' => ?_
    obtain rfl : q' = 14 := by simpa using hq'
    refine ops_call (d := some 37) rfl (by rfl) (by kernel_rfl) (by go_simp) ((HI2.out _ hS4).mono ?_)
    rintro e w5 ⟨rfl, hb5⟩
    have hS5 : Below w1.heap.size w1 w5 := hS4.trans (hb5.mono hS4.size)
    refine ⟨_, rfl, hS5, ?_⟩
    simp only [Act.put, List.setIfInBounds_toArray, List.set_cons_zero, List.set_cons_succ]
    refine any_take (i := 15) (some 38) (.bool false) rfl (by rfl) (by kernel_rfl) (by kernel_rfl) (by kernel_rfl) (fun _ _ _ h => h) (Or.inl ⟨by kernel_rfl, (fun W hw => by clear hw; go_simp)⟩) hS5 ?_
    simp only [Act.put, List.setIfInBounds_toArray, List.set_cons_zero, List.set_cons_succ]
    refine any_take (i := 16) (some 39) (.bool false) rfl (by rfl) (by kernel_rfl) (by kernel_rfl) (by kernel_rfl) (fun _ _ _ h => h) (Or.inl ⟨by kernel_rfl, (fun W hw => by clear hw; go_simp)⟩) hS5 ?_
    simp only [Act.put, List.setIfInBounds_toArray, List.set_cons_zero, List.set_cons_succ]
    refine wpAnyH_done (by kernel_rfl) ?_ _
    have HS5 := Lib.hid hS5
    have hA5 := (HCW.out w5 hS5).2
    have hW5 : Below w.heap.size w w5 := HW1.out.trans (hS5.mono HW1.out.size)
    have HW5 := Lib.hid hW5
    obtain ⟨z0, z1, z2, z3⟩ := EX.out w5 hS5
    have HWH := Lib.hid (whole_any w5 M (.slice Am N cm) (.slice As N cs) cc B hA5.row.1 hA5.col (by have := HR.out.2.2.2; have := HR.out.2.2.1; have := H.out.2.2.1; have := H.out.2.2.2.2.1; omega) i (by have := HR.out.2.2.2; have := HR.out.2.2.1; omega))
    clear hS hS2 hS3 hS4 hS5 hb2 hb3 hb4 hb5 hA5 hW5 HK1 HK2 HV2 HI2 t2
    go_wp2_with fail
    refine HWH.out.mono ?_
    clear HWH
    rintro e w6 ⟨rw_, rfl, hrw, hb6⟩
    have HW6 := Lib.hid (HW5.out.trans (hb6.mono HW5.out.size))
    have HS6 := Lib.hid (HS5.out.trans (hb6.mono HS5.out.size))
    rw [H.out.2.2.2.1] at hrw
    have hwh := H.out.1.whole HR.out.1 hrw
    rw [HC.out.2.2.2.2.2.1] at hwh
    obtain ⟨z0, z1, z2, z3⟩ := EX.out w6 (HS5.out.trans (hb6.mono HS5.out.size))
    have hC6 := HC.out.1.below HW6.out
    have HPP := Lib.hid (pparts_cl hC6 (by have := HC.out.2.1; have := HC.out.2.2.1; omega) (Un.dg_le (by have := H.out.2.2.1; omega)) r HR.out.2.1 fun p hp => H.out.2.1 p hp)
    have HWX := Lib.hid hwh
    clear hrw hb6 hwh hC6
    go_wp2_with fail
    refine HPP.out.mono ?_
    clear HPP
    rintro e w7 ⟨vp, k7, rfl, ho7, hk7, hC7, hE7⟩
    obtain ⟨PO, hPO⟩ : ∃ PO, partsO G (kn r).1 = PO := ⟨_, rfl⟩
    rw [hPO] at ho7
    obtain ⟨Ap, cp, rfl, _, _⟩ := Un.own_form ho7
    have hE7w : Else A.S w w7 := (Else.of_below HW6.out).trans hE7
    have E07 := Lib.hid ((Else.of_below (S := A.S) (HV1.out.2.trans (HS6.out.mono HV1.out.2.size))).trans hE7)
    obtain ⟨z0, z1, z2, z3⟩ := EB.out w7 E07.out
    have H7 := Lib.hid (And.intro ho7 (And.intro hk7 (And.intro hC7 (And.intro hE7w hPO))))
    have h9 : 200 ≤ 200 * 9 ^ d := by have := Nat.one_le_pow d 9 (by omega); omega
    have H9 := Lib.hid h9
    clear ho7 hk7 hC7 hE7 hE7w hPO h9
    rcases HWX.out with ⟨rfl, _, h0⟩ | ⟨k, p, rfl, hp, _, _, hpr⟩
    · obtain rfl : PO = [] := by rw [← H7.out.2.2.2.2]; exact h0
      clear h0
      simp only [List.length_nil]
      go_wp2_with fail
      go_ret
      exact ⟨k7, rfl, by have := H7.out.2.1; have := H9.out; omega, H7.out.2.2.1, H7.out.2.2.2.1⟩
    · rw [H7.out.2.2.2.2] at hpr
      have hkl := lt_of_get hp
      have HP := Lib.hid (And.intro hp (And.intro hpr hkl))
      have t3 : decide ((k : Int) < 0) = false := decide_eq_false (by omega)
      have t4 : decide (0 ≤ (k : Int)) = true := decide_eq_true (by omega)
      clear hp hpr hkl
      cases d with
      | zero =>
        go_wp2_with fail
        go_ret
        exact ⟨k7, rfl, by have := H7.out.2.1; have := H9.out; omega, H7.out.2.2.1, H7.out.2.2.2.1⟩
      | succ d' =>
        rw [show ((d' + 1 : Nat) : Int) = (d' : Int) + 1 by push_cast; rfl]
        have t5 : ((d' : Int) + 1 == 0) = false := by simp; omega
        have HIH := Lib.hid (H.out.2.2.2.2.2.2.2 d' rfl)
        have hlen : PO.length = p.2.2.2.length := by have := congrArg List.length HP.out.2.1; simpa using this
        have hp8 : p.2.2.2.length ≤ 8 := (H.out.2.1 p (List.mem_of_getElem? HP.out.1)).1
        have hkM : k < M.length := by have := H.out.2.2.2.2.1; have := HP.out.2.2; omega
        have hA7 := FA.out w7 H7.out.2.2.2.1
        obtain ⟨b1, o1, cap1, hv1, _, _, _, _⟩ := hA7.row.1.2.resolve_left (by rintro ⟨h, _⟩; omega)
        injection hv1 with hA1 hN1 hcc1
        subst hA1; subst hcc1
        clear hN1
        obtain ⟨⟨P1, P2, P3⟩, hRR⟩ : ∃ R, M[k].2 = R := ⟨_, rfl⟩
        have hpM : (gM M)[k]? = some p := by rw [H.out.2.2.2.1]; exact HP.out.1
        obtain ⟨hP2, hcell, _⟩ := hA7.node H.out.2.2.2.2.2.1 k hkM rfl _ hRR p hpM
        dsimp only [slv] at hcell hP2
        have hkN : k < N := by have := HR.out.2.2.2; omega
        have hP2n : PO.length = P2 := by omega
        obtain ⟨n, hn⟩ : ∃ n, PO.length = n := ⟨_, rfl⟩
        have hn8 : n ≤ 8 := by omega
        have hP2' : P2 = n := by omega
        subst hP2'
        have t6 : ((P2 : Int) != (P2 : Int)) = false := by simp
        have HQ := Lib.hid (And.intro hn (And.intro hlen (show ∃ (h : k < M.length), M[k].2 = (P1, P2, P3) from ⟨hkM, hRR⟩)))
        have HPM := Lib.hid hpM
        rw [hn]
        clear hlen hp8 hRR hkM hA7 hpM hP2 hP2n hn
        go_wp2_with fail
        go_loopw [13] (fun s13 wr => ∃ j kk : Nat, s13 = .int .i64 (j : Nat) ∧ j ≤ P2 ∧ kk ≤ j * (200 * 9 ^ d') ∧ ClM O wr cb A st false G.length G kn nx col ro (f + k7 + kk) ∧ Else A.S w7 wr) (fun s _ => P2 - (intOf s).toNat)
        case atStart => exact ⟨0, 0, rfl, Nat.zero_le _, by simp, by simpa using H7.out.2.2.1, Else.refl _ _⟩
        case round =>
          obtain ⟨j, kk, rfl, hj, hkk, hCr, hEr⟩ := hrel
          have HT := Lib.hid (And.intro hCr (And.intro hEr hkk))
          clear hCr hEr hkk
          by_cases hjl : j < P2
          · have f1 : decide ((j : Int) < (P2 : Int)) = true := decide_eq_true (by omega)
            have HJL := Lib.hid hjl
            have hnp := HQ.out.1
            have hlp := HQ.out.2.1
            obtain ⟨y, hy⟩ : ∃ y, p.2.2.2[j]? = some y := ⟨_, List.getElem?_eq_getElem (by omega)⟩
            have hyG : y < G.length := (H.out.2.1 p (List.mem_of_getElem? HP.out.1)).2 y (List.mem_of_getElem? hy)
            have hry : (PO.map ro)[j]? = some (ro y) := by rw [HP.out.2.1, List.getElem?_map, hy]; rfl
            obtain ⟨q, hq⟩ : ∃ q, ro y = q := ⟨_, rfl⟩
            rw [hq] at hry
            have hvp : w7.ownsRow w6.heap.size 57 2 (.slice Ap P2 cp) P2 (ptC cb (PO.map ro)) := by have := H7.out.1; rw [hnp] at this; exact this
            obtain ⟨gp, cpp, hsh, _, hgl⟩ := Un.own_shape hvp (by omega)
            injection hsh with hA2 _ hcc2
            subst hA2; subst hcc2
            have hgS : ¬ A.S gp := fun hs => by have h1 := (hvp.lt gp rfl).1; have h2 := HC.out.1.lt (.inr (.inl hs)); have := HW6.out.size; omega
            obtain ⟨q0, q1⟩ := ptC_at cb (PO.map ro) j q hry
            have hAr := FA.out wr (H7.out.2.2.2.1.trans HT.out.2.1)
            obtain ⟨hkM, hRR⟩ := HQ.out.2.2
            obtain ⟨hR2, hcell2, hprt⟩ := hAr.node H.out.2.2.2.2.2.1 k hkM rfl _ hRR p HPM.out
            obtain ⟨bp, op, hR1, hyc⟩ := hprt j y hy
            dsimp only [slv] at hcell2 hR2 hR1
            subst hR1
            have EY : Hid (∀ W, Else A.S w7 W → W.cell? ⟨w.heap.size + 1, 0, none⟩ = some (.slice (some ⟨b1, o1, none⟩) N cm) ∧ W.cell? ⟨w.heap.size + 1, 1, none⟩ = some (.slice As N cs) ∧ W.cell? ⟨gp, j * 2, none⟩ = some (.pointer (some ⟨cb, 0, none⟩)) ∧ W.cell? ⟨gp, j * 2 + 1, none⟩ = some (.int .i64 (q : Nat)) ∧ W.cell? ⟨b1, o1 + k * 4 + 3, none⟩ = some (.slice (some ⟨bp, op, none⟩) P2 P3) ∧ W.cell? ⟨bp, op + j, none⟩ = some (.int .i64 (y : Nat))) := Lib.hid fun W hE => by
              obtain ⟨_, _, h2, h3⟩ := EB.out W (E07.out.trans hE)
              have hv := own_else hvp hE fun k hk => by cases hk; exact hgS
              have hAW := FA.out W (H7.out.2.2.2.1.trans hE)
              obtain ⟨_, hcW, hpW⟩ := hAW.node H.out.2.2.2.2.2.1 k hkM rfl _ hRR p HPM.out
              obtain ⟨b', o', hR1, hyW⟩ := hpW j y hy
              dsimp only [slv] at hcW hR1
              cases hR1
              exact ⟨h2, h3, (hv.cellAt (j * 2) (by omega)).trans q0, (hv.cellAt (j * 2 + 1) (by omega)).trans q1, hcW, hyW⟩
            have hfb : 0 ≤ f + (k7 : Int) + (kk : Int) ∧ f + (k7 : Int) + (kk : Int) + 100000 * (d' : Nat) ≤ 1000000000 := by
              have h1 := HC.out.2.1
              have h2 := HC.out.2.2.1
              have h3 := H7.out.2.1
              have h4 := HT.out.2.2
              have h5 : j * (200 * 9 ^ d') ≤ 8 * 1800 := Nat.mul_le_mul (by omega) (by
                have h6 := H.out.2.2.2.2.2.2.1
                have : 9 ^ d' ≤ 9 ^ 1 := Nat.pow_le_pow_right (by omega) (by omega)
                omega)
              push_cast at h2
              omega
            have HIC := Lib.hid (HIH.out wr.drew y (f + k7 + kk) hyG (HT.out.1.below (Below.refl _ wr).drew) hfb.1 hfb.2 (FA.out _ (H7.out.2.2.2.1.trans (Un.Else.drew HT.out.2.1))))
            rw [hq] at HIC
            have i1 : IntKind.i64.wrap (((d' + 1 : Nat) : Int) - 1) = (d' : Nat) := by rw [IntWalk.i64_in _ (by have := H.out.2.2.2.2.2.2.1; omega)]; push_cast; omega
            have i2 : IntKind.i64.wrap ((d' : Int) + 1 - 1) = (d' : Nat) := by rw [IntWalk.i64_in _ (by have := H.out.2.2.2.2.2.2.1; omega)]; omega
            have i3 : IntKind.i64.wrap (d' : Int) = (d' : Nat) := IntWalk.i64_in _ (by have := H.out.2.2.2.2.2.2.1; omega)
            have hd1 : d' ≤ 1 := by have := H.out.2.2.2.2.2.2.1; omega
            clear hnp hlp hy hyG hry hq hvp hgl hgS q0 q1 hAr hRR hR2 hcell2 hprt hyc hfb
            go_wp2_with fail
            have hS : Else A.S w7 wr.drew := Un.Else.drew HT.out.2.1
            refine wp_region_held (S := (fun W => Else A.S w7 W)) (by kernel_rfl) ?_
            change wpAnyH _ _ _ _ _ 18 (List.replicate 18 false).toArray _ wr.drew
            simp only [List.replicate_succ, List.replicate_zero]
            refine any_take (i := 0) (some 74) (.slice (some ⟨gp, 0, none⟩) P2 cp) rfl (by rfl) (by kernel_rfl) (by kernel_rfl) (by kernel_rfl) (fun _ _ _ h => h) (Or.inl ⟨by kernel_rfl, (fun W hw => by clear hw; go_simp)⟩) hS ?_
            simp only [Act.put, List.setIfInBounds_toArray, List.set_cons_zero, List.set_cons_succ]
            refine any_take (i := 1) (some 75) (.int .i64 (j : Nat)) rfl (by rfl) (by kernel_rfl) (by kernel_rfl) (by kernel_rfl) (fun _ _ _ h => h) (Or.inl ⟨by kernel_rfl, (fun W hw => by clear hw; go_simp)⟩) hS ?_
            simp only [Act.put, List.setIfInBounds_toArray, List.set_cons_zero, List.set_cons_succ]
            refine any_take (i := 2) (some 76) (.pointer (some ⟨gp, j * 2, none⟩)) rfl (by rfl) (by kernel_rfl) (by kernel_rfl) (by kernel_rfl) (fun _ _ _ h => h) (Or.inl ⟨by kernel_rfl, (fun W hw => by clear hw; go_simp)⟩) hS ?_
            simp only [Act.put, List.setIfInBounds_toArray, List.set_cons_zero, List.set_cons_succ]
            refine any_take (i := 3) (some 77) (.agg #[.pointer (some ⟨cb, 0, none⟩), .int .i64 (q : Nat)]) rfl (by rfl) (by kernel_rfl) (by kernel_rfl) (by kernel_rfl) (fun _ _ _ h => h) (Or.inl ⟨by kernel_rfl, (fun W hw => by obtain ⟨n0_, n1_, n2_, n3_, n4_, n5_⟩ := EY.out W hw; clear hw; go_simp)⟩) hS ?_
            simp only [Act.put, List.setIfInBounds_toArray, List.set_cons_zero, List.set_cons_succ]
            refine any_take (i := 4) (some 78) (.agg #[.slice (some ⟨b1, o1, none⟩) N cm, .slice As N cs]) rfl (by rfl) (by kernel_rfl) (by kernel_rfl) (by kernel_rfl) (fun _ _ _ h => h) (Or.inl ⟨by kernel_rfl, (fun W hw => by obtain ⟨n0_, n1_, n2_, n3_, n4_, n5_⟩ := EY.out W hw; clear hw; go_simp)⟩) hS ?_
            simp only [Act.put, List.setIfInBounds_toArray, List.set_cons_zero, List.set_cons_succ]
            refine any_take (i := 5) (some 79) (.pointer (some ⟨w.heap.size + 1, 0, none⟩)) rfl (by rfl) (by kernel_rfl) (by kernel_rfl) (by kernel_rfl) (fun _ _ _ h => h) (Or.inl ⟨by kernel_rfl, (fun W hw => by clear hw; go_simp)⟩) hS ?_
            simp only [Act.put, List.setIfInBounds_toArray, List.set_cons_zero, List.set_cons_succ]
            refine any_take (i := 6) (some 80) (.slice (some ⟨b1, o1, none⟩) N cm) rfl (by rfl) (by kernel_rfl) (by kernel_rfl) (by kernel_rfl) (fun _ _ _ h => h) (Or.inl ⟨by kernel_rfl, (fun W hw => by obtain ⟨n0_, n1_, n2_, n3_, n4_, n5_⟩ := EY.out W hw; clear hw; go_simp)⟩) hS ?_
            simp only [Act.put, List.setIfInBounds_toArray, List.set_cons_zero, List.set_cons_succ]
            refine any_take (i := 7) (some 81) (.int .i64 (k : Nat)) rfl (by rfl) (by kernel_rfl) (by kernel_rfl) (by kernel_rfl) (fun _ _ _ h => h) (Or.inl ⟨by kernel_rfl, (fun W hw => by clear hw; go_simp)⟩) hS ?_
            simp only [Act.put, List.setIfInBounds_toArray, List.set_cons_zero, List.set_cons_succ]
            refine any_take (i := 8) (some 82) (.pointer (some ⟨b1, o1 + k * 4, none⟩)) rfl (by rfl) (by kernel_rfl) (by kernel_rfl) (by kernel_rfl) (fun _ _ _ h => h) (Or.inl ⟨by kernel_rfl, (fun W hw => by clear hw; go_simp)⟩) hS ?_
            simp only [Act.put, List.setIfInBounds_toArray, List.set_cons_zero, List.set_cons_succ]
            refine any_take (i := 9) (some 83) (.pointer (some ⟨b1, o1 + k * 4 + 3, none⟩)) rfl (by rfl) (by kernel_rfl) (by kernel_rfl) (by kernel_rfl) (fun _ _ _ h => h) (Or.inl ⟨by kernel_rfl, (fun W hw => by clear hw; go_simp)⟩) hS ?_
            simp only [Act.put, List.setIfInBounds_toArray, List.set_cons_zero, List.set_cons_succ]
            refine any_take (i := 10) (some 84) (.slice (some ⟨bp, op, none⟩) P2 P3) rfl (by rfl) (by kernel_rfl) (by kernel_rfl) (by kernel_rfl) (fun _ _ _ h => h) (Or.inl ⟨by kernel_rfl, (fun W hw => by obtain ⟨n0_, n1_, n2_, n3_, n4_, n5_⟩ := EY.out W hw; clear hw; go_simp)⟩) hS ?_
            simp only [Act.put, List.setIfInBounds_toArray, List.set_cons_zero, List.set_cons_succ]
            refine any_take (i := 11) (some 85) (.int .i64 (j : Nat)) rfl (by rfl) (by kernel_rfl) (by kernel_rfl) (by kernel_rfl) (fun _ _ _ h => h) (Or.inl ⟨by kernel_rfl, (fun W hw => by clear hw; go_simp)⟩) hS ?_
            simp only [Act.put, List.setIfInBounds_toArray, List.set_cons_zero, List.set_cons_succ]
            refine any_take (i := 12) (some 86) (.pointer (some ⟨bp, op + j, none⟩)) rfl (by rfl) (by kernel_rfl) (by kernel_rfl) (by kernel_rfl) (fun _ _ _ h => h) (Or.inl ⟨by kernel_rfl, (fun W hw => by clear hw; go_simp)⟩) hS ?_
            simp only [Act.put, List.setIfInBounds_toArray, List.set_cons_zero, List.set_cons_succ]
            refine any_take (i := 13) (some 87) (.int .i64 (y : Nat)) rfl (by rfl) (by kernel_rfl) (by kernel_rfl) (by kernel_rfl) (fun _ _ _ h => h) (Or.inl ⟨by kernel_rfl, (fun W hw => by obtain ⟨n0_, n1_, n2_, n3_, n4_, n5_⟩ := EY.out W hw; clear hw; go_simp)⟩) hS ?_
            simp only [Act.put, List.setIfInBounds_toArray, List.set_cons_zero, List.set_cons_succ]
            refine any_take (i := 14) (some 88) (.int .i64 ((d' : Int) + 1)) rfl (by rfl) (by kernel_rfl) (by kernel_rfl) (by kernel_rfl) (fun _ _ _ h => h) (Or.inl ⟨by kernel_rfl, (fun W hw => by clear hw; go_simp)⟩) hS ?_
            simp only [Act.put, List.setIfInBounds_toArray, List.set_cons_zero, List.set_cons_succ]
            refine any_take (i := 15) (some 89) (.int .i64 (d' : Nat)) rfl (by rfl) (by kernel_rfl) (by kernel_rfl) (by kernel_rfl) (fun _ _ _ h => h) (Or.inl ⟨by kernel_rfl, (fun W hw => by clear hw; go_simp)⟩) hS ?_
            simp only [Act.put, List.setIfInBounds_toArray, List.set_cons_zero, List.set_cons_succ]
            refine wpAnyH_all (rs := [16]) (by kernel_rfl) (by simp) fun q' hq' => ?_
            obtain rfl : q' = 16 := by simpa using hq'
            refine ops_call (d := some 90) rfl (by rfl) (by kernel_rfl) (by go_simp) ((show Calls _ _ #[.agg #[.pointer (some ⟨cb, 0, none⟩), .int .i64 (q : Nat)], .agg #[.slice (some ⟨b1, o1, none⟩) N cm, .slice As N cs], .int .i64 (y : Nat), .int .i64 (d' : Nat)] _ _ from HIC.out).mono ?_)
            rintro e w8 ⟨k8, rfl, hk8, hC8, hE8⟩
            have hS8 : Else A.S w7 w8 := hS.trans hE8
            have HF := Lib.hid (And.intro hk8 (And.intro hC8 hS8))
            clear hk8 hC8 hE8 HIC
            refine ⟨_, rfl, hS8, ?_⟩
            simp only [Act.put, List.setIfInBounds_toArray, List.set_cons_zero, List.set_cons_succ]
            refine any_take (i := 17) (some 91) (.bool false) rfl (by rfl) (by kernel_rfl) (by kernel_rfl) (by kernel_rfl) (fun _ _ _ h => h) (Or.inl ⟨by kernel_rfl, (fun W hw => by clear hw; go_simp)⟩) hS8 ?_
            simp only [Act.put, List.setIfInBounds_toArray, List.set_cons_zero, List.set_cons_succ]
            refine wpAnyH_done (by kernel_rfl) ?_ _
            clear hS hS8 EY i1 i2 i3
            go_wp2_with fail
            go_roundw
            case rel =>
              refine ⟨j + 1, kk + k8, by go_num, HJL.out, ?_, ?_, HF.out.2.2⟩
              · have h1 := HF.out.1
                have h2 := HT.out.2.2
                rw [Nat.add_mul, Nat.one_mul]
                omega
              · have e : f + (k7 : Int) + ((kk + k8 : Nat) : Int) = f + (k7 : Nat) + (kk : Nat) + (k8 : Nat) := by push_cast; omega
                rw [e]
                exact HF.out.2.1
            case measure => have := HJL.out; simp [intOf]; omega
          · have f1 : decide ((j : Int) < (P2 : Int)) = false := decide_eq_false (by omega)
            have hje : j = P2 := by omega
            have HJE := Lib.hid hje
            clear hje
            go_wp2_with fail
            go_ret
            refine ⟨k7 + kk, rfl, ?_, ?_, H7.out.2.2.2.1.trans HT.out.2.1⟩
            · have h1 := HT.out.2.2
              have h2 := H7.out.2.1
              have h3 := Nat.one_le_pow d' 9 (by omega)
              have h4 : j * (200 * 9 ^ d') ≤ 8 * (200 * 9 ^ d') := Nat.mul_le_mul_right _ (by omega)
              rw [Nat.pow_succ]
              omega
            · have e : f + ((k7 + kk : Nat) : Int) = f + (k7 : Nat) + (kk : Nat) := by push_cast; omega
              rw [e]
              exact HT.out.1
end Go.Proofs.Ytbnpmeaaaecciaa
/- unify: Parts of a variable; a part of nothing. -/
namespace Go.Proofs.Ytbnpmeaaaecciaa
open Go.RowKit
open Un (rowI rowI_get own_shape paint Else own_else dg)
set_option maxRecDepth 100000
theorem parts_any {O : Nat → Prop} {cb : Nat} {A : Adr} {st : Int} {G : List Gn} {kn : Kn} {nx col ro : Nat → Nat} {D : Nat → Prop} {B : Nat} {vm vs : Value} {M : List Rm} {cc : Nat → Nat} {E : List (Nat × Nat)} (hb : Both G col ro kn E cc) (hgp : Gp G) (hG : G.length ≤ 160) (hM : gM M = G) (hml : M.length = G.length) (hN : ∀ x ∈ M, x.2.2.1 = x.1.2.2.2.2.length) (hD : ∀ k, A.S k → ¬ D k) (hB : ∀ k, A.S k → k < B) (d : Nat) (hd : d ≤ 2) : PartsOk O cb A st G kn nx col ro D B vm vs M cc d := by
  induction d with
  | zero => exact parts_step hb hgp hG hM hml hN hD hB 0 hd fun d' h => by omega
  | succ d ih =>
    refine parts_step hb hgp hG hM hml hN hD hB (d + 1) hd fun d' h => ?_
    obtain rfl : d = d' := by omega
    exact ih (by omega)
theorem id_zero (w : World) : Calls Try.prog 21 #[ptV none 0] w fun e w' => e = .returned (.int .i64 (-1)) ∧ Below w.heap.size w w' := by
  show Calls _ _ #[.agg #[.pointer none, .int .i64 0]] _ _
  go_enter Try.func21, Try.ntmps21
  go_wp2_with fail
  refine (show Calls _ _ #[.agg #[.pointer none, .int .i64 0]] _ _ from holds_zero _).mono ?_
  rintro e w' ⟨rfl, hb⟩
  go_wp2_with fail
  exact bodyPost_ret (results_tmp rfl _ _ _) rfl ⟨rfl, ((Below.refl _ w).alloc (Nat.le_refl _) _).trans (hb.mono (by simp))⟩
theorem var_zero (w : World) : Calls Try.prog 24 #[ptV none 0] w fun e w' => e = .returned (.int .i64 (-1)) ∧ Below w.heap.size w w' := by
  show Calls _ _ #[.agg #[.pointer none, .int .i64 0]] _ _
  go_enter Try.func24, Try.ntmps24
  go_wp2_with fail
  refine (show Calls _ _ #[.agg #[.pointer none, .int .i64 0]] _ _ from holds_zero _).mono ?_
  rintro e w' ⟨rfl, hb⟩
  go_wp2_with fail
  exact bodyPost_ret (results_tmp rfl _ _ _) rfl ⟨rfl, ((Below.refl _ w).alloc (Nat.le_refl _) _).trans (hb.mono (by simp))⟩
theorem parts_zero (w : World) : Calls Try.prog 25 #[ptV none 0] w fun e w' => e = .returned (.slice none 0 0) ∧ Below w.heap.size w w' := by
  show Calls _ _ #[.agg #[.pointer none, .int .i64 0]] _ _
  go_enter Try.func25, Try.ntmps25
  go_wp2_with fail
  refine (show Calls _ _ #[.agg #[.pointer none, .int .i64 0]] _ _ from holds_zero _).mono ?_
  rintro e w' ⟨rfl, hb⟩
  go_wp2_with fail
  exact bodyPost_ret (results_tmp rfl _ _ _) rfl ⟨rfl, ((Below.refl _ w).alloc (Nat.le_refl _) _).trans (hb.mono (by simp))⟩
/-- What Parts of a variable gives. -/
def CPost (O : Nat → Prop) (cb : Nat) (A : Adr) (st : Int) (n : Nat) (G : List Gn) (kn : Kn) (nx col ro : Nat → Nat) (fs : Int) (r : Nat) (w : World) (e : Ending) (w' : World) : Prop :=
  ∃ (vv : Value) (b : Bool) (k : Nat), e = .returned (.tuple #[vv, .bool b]) ∧ k ≤ 189 ∧ ClM O w' cb A st false n G kn nx col ro (fs + k) ∧ Else A.S w w' ∧
    ((b = false ∧ vv = .slice none 0 0 ∧ kindO G (kn r).1 = 0) ∨ (b = true ∧ kindO G (kn r).1 ≠ 0 ∧ w'.ownsRow w.heap.size 57 2 vv (partsO G (kn r).1).length (ptC cb ((partsO G (kn r).1).map ro))))
set_option maxHeartbeats 1000000 in
theorem cparts_cl {O : Nat → Prop} {w : World} {cb : Nat} {A : Adr} {st : Int} {n : Nat} {G : List Gn} {kn : Kn} {nx col ro : Nat → Nat} {fs : Int} (h : ClM O w cb A st false n G kn nx col ro fs) (hst : 0 ≤ fs ∧ fs ≤ 100000000000) (hdg : dg n ≤ 21) (v : Int) (hv : (Lit.int .i64 v).wf = true) (i : Nat) (hg : gvar G v = some i) (hi : i < n) (hrn : ro i < n) (hP : ∀ p ∈ G, p.2.2.2.length ≤ 8 ∧ ∀ u ∈ p.2.2.2, u < n) :
    Calls Try.prog 18 #[.pointer (some ⟨cb, 0, none⟩), .int .i64 v] w (CPost O cb A st n G kn nx col ro fs (ro i) w) := by
  have HP := cpart_cl h (by omega) v hv (fun j hj => by rw [hg] at hj; cases hj; exact hi)
  rw [hg] at HP
  dsimp only at HP
  obtain ⟨r, hr⟩ : ∃ r, ro i = r := ⟨_, rfl⟩
  rw [hr] at HP hrn ⊢
  simp only [ptV, Option.map_some] at HP
  have HH := Lib.hid (And.intro h (And.intro hst (And.intro hdg (And.intro hrn hP))))
  have HPH := Lib.hid HP
  clear h hst hdg hrn hP hr hg HP hi hv
  go_enter Try.func18, Try.ntmps18
  go_wp2_with fail
  refine HPH.out.mono ?_
  clear HPH
  rintro e w2 ⟨k, rfl, hk, hC, hE⟩
  have hb1 : Below w2.heap.size w2 (w2.alloc (.cells #[.pointer (some ⟨cb, 0, none⟩), .int .i64 (r : Nat)] 57)) := (Below.refl _ w2).alloc (Nat.le_refl _) _
  have hx := heap_alloc_new w2 (.cells #[.pointer (some ⟨cb, 0, none⟩), .int .i64 (r : Nat)] 57)
  have HK := Lib.hid (pkind_cl (hC.below hb1) r HH.out.2.2.2.1)
  have HF := Lib.hid (And.intro hk (And.intro hC (And.intro hE (And.intro hb1 hx))))
  clear hk hC hE hb1 hx
  go_wp2_with fail
  refine (show Calls _ _ #[.agg #[.pointer (some ⟨cb, 0, none⟩), .int .i64 (r : Nat)]] _ _ from HK.out).mono ?_
  clear HK
  rintro e w3 ⟨rfl, hb⟩
  have hx3 := (hb.block w2.heap.size (by simp)).trans HF.out.2.2.2.2
  have hb3 : Below w2.heap.size w2 w3 := HF.out.2.2.2.1.trans (hb.mono (by simp))
  have HB := Lib.hid (And.intro hb3 (HF.out.2.1.below hb3))
  have d0 : w3.cell? ⟨w2.heap.size, 0, none⟩ = some (.pointer (some ⟨cb, 0, none⟩)) := cell_of_row w3 _ 0 _ _ (0, 0) hx3
  have d1 : w3.cell? ⟨w2.heap.size, 1, none⟩ = some (.int .i64 (r : Nat)) := cell_of_row w3 _ 1 _ _ (0, 0) hx3
  clear hb hb3 hx3
  by_cases hz : kindO G (kn r).1 = 0
  · have HZ := Lib.hid hz
    rw [hz]
    clear hz
    go_wp2_with fail
    refine bodyPost_ret (results_tmp2 rfl _ _ _) rfl ⟨_, false, k, rfl, by have := HF.out.1; have := HH.out.2.2.1; omega, HB.out.2, HF.out.2.2.1.trans (Else.of_below HB.out.1), .inl ⟨rfl, rfl, HZ.out⟩⟩
  · have t1 : (kindO G (kn r).1 == 0) = false := by simpa using hz
    have HZ := Lib.hid hz
    have HPP := Lib.hid (pparts_cl HB.out.2 (by have := HF.out.1; have := HH.out.2.2.1; have := HH.out.2.1; omega) HH.out.2.2.1 r HH.out.2.2.2.1 HH.out.2.2.2.2)
    clear hz
    go_wp2_with fail
    refine (show Calls _ _ #[.agg #[.pointer (some ⟨cb, 0, none⟩), .int .i64 (r : Nat)]] _ _ from HPP.out).mono ?_
    clear HPP
    rintro e w4 ⟨vv, k4, rfl, ho, hk4, hC4, hE4⟩
    have HG := Lib.hid (And.intro ho (And.intro hk4 (And.intro hC4 hE4)))
    clear ho hk4 hC4 hE4 t1
    go_wp2_with fail
    refine bodyPost_ret (results_tmp2 rfl _ _ _) rfl ⟨_, true, k + k4, rfl, by have := HF.out.1; have := HH.out.2.2.1; have := HG.out.2.1; omega, ?_, (HF.out.2.2.1.trans (Else.of_below HB.out.1)).trans HG.out.2.2.2, .inr ⟨rfl, HZ.out, own_mono HG.out.1 (Nat.le_trans HF.out.2.2.1.size HB.out.1.size)⟩⟩
    have e : fs + ((k + k4 : Nat) : Int) = fs + (k : Nat) + (k4 : Nat) := by push_cast; omega
    rw [e]
    exact HG.out.2.2.1
end Go.Proofs.Ytbnpmeaaaecciaa
