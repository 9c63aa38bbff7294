/- Texts of one proof, one behind the other. -/
import Derived.Test.YtifdbmdfkhnojaaDoorMgSubstApplies25
import Derived.Test.YtifdbmdfkhnojaaDoorMgSubstApplies18
/- Whether binds are solved. -/
namespace Go.Proofs.YtifdbmdfkhnojaaDoor
open Go.RowKit Go.Shelf Go.Maps Go.WideShapes
/-- Does no variable of these stand in a bind's type? -/
def freeB (l : List Bnd) (b : Bnd) : Bool := (varsL [] (Fo.cons b.2.1 b.2.2.1 b.2.2.2.1 b.2.2.2.2 .nil).pre).all fun v => (fnd l v).isNone
def solvedV (l : List Bnd) : Bool := (cnt l).all (freeB l)
theorem varsL_wf (L : List Tr) (h : ∀ x ∈ L, (Lit.int .i64 x.2.1).wf = true) (a : List Int) (ha : ∀ v ∈ a, (Lit.int .i64 v).wf = true) : ∀ v ∈ varsL a L, (Lit.int .i64 v).wf = true := by
  induction L generalizing a with
  | nil => exact ha
  | cons x L ih =>
    refine ih (fun y hy => h y (List.mem_cons_of_mem _ hy)) _ ?_
    unfold addV
    split
    · intro v hv
      rcases List.mem_append.1 hv with hv | hv
      · exact ha v hv
      · obtain rfl : v = x.2.1 := by simpa using hv
        exact h x List.mem_cons_self
    · exact ha
/-- One type, laid anew as a list. -/
theorem one_new (w : World) (k n : Int) (u : Sl) (ps : Fo) (h : TyV w.heap.size w ps (slv u)) : TyV (w.alloc (.cells #[.int .i64 k, .int .i64 n, slv u] 25)).heap.size (w.alloc (.cells #[.int .i64 k, .int .i64 n, slv u] 25)) (.cons k n u ps .nil) (.slice (some ⟨w.heap.size, 0, none⟩) 1 1) := by
  have h0 := heap_alloc_new w (.cells #[.int .i64 k, .int .i64 n, slv u] 25)
  refine tyV_cons.2 ⟨w.heap.size, 0, 1, rfl, by simp [Fo.len], by unfold maxLen; omega, by simp, tyC_cons.2 ⟨cell_of_row _ _ 0 _ _ (0, 0) h0, cell_of_row _ _ 1 _ _ (0, 0) h0, cell_of_row _ _ 2 _ _ (0, 0) h0, ?_, tyC_nil⟩⟩
  exact h.later ((Below.refl _ _).alloc (Nat.le_refl _) _)
theorem mvl_look {l : List Bnd} {n : Int} : (mv l n).isSome = (fnd l n).isSome := by simp [mv]
set_option maxHeartbeats 4000000 in
set_option maxRecDepth 100000 in
theorem solved_bind (w : World) (l : List Bnd) (v : Value) (hl : BdG w l v 90000) :
    Calls Tryd.prog 16 #[v] w fun e w' => e = .returned (.bool (solvedV l)) ∧ Below w.heap.size w w' := by
  obtain ⟨A, c, rfl⟩ := hl.at_.form
  have hlen := hl.len
  have hby := byvar_any w w.heap.size l _ (Nat.le_refl _) hl.at_ hl.wf hl.len
  go_enter Tryd.func16, Tryd.ntmps16
  go_wp2_with fail
  refine hby.mono ?_
  clear hby
  rintro e w1 ⟨bm, rfl, _, hm, hb1⟩
  have hct := counting_any w1 l _ (hl.later hb1).at_ hl.wf (by omega)
  have HM := Lib.hid hm
  have HB1 := Lib.hid hb1
  have HL := Lib.hid hl
  clear hm hb1 hl
  go_wp2_with fail
  refine hct.mono ?_
  clear hct
  rintro e w2 ⟨v2, rfl, hC, hb2, _⟩
  obtain ⟨A2, c2, rfl⟩ := hC.form
  have hcl := cnt_len l
  have hb02 := HB1.out.trans (hb2.mono HB1.out.size)
  have HB2 := Lib.hid hb02
  have HM2 := Lib.hid (HM.out.below hb2)
  clear hb2 hb02 HM
  go_wp2_with fail
  go_loopw [15] (fun s15 wr => ∃ j : Nat, s15 = .int .i64 j ∧ j ≤ (cnt l).length ∧ ((cnt l).take j).all (freeB l) = true ∧ Below w2.heap.size w2 wr) (fun s _ => (cnt l).length - (intOf s).toNat)
  case atStart => exact ⟨0, rfl, Nat.zero_le _, rfl, Below.refl _ _⟩
  case round =>
    obtain ⟨j, rfl, hj, hok, hb⟩ := hrel
    by_cases hjl : j < (cnt l).length
    · obtain ⟨b, off, rfl, hlt, c0, c1, c2', c3⟩ := (hC.below hb).at j hjl
      have htk : (cnt l).take (j + 1) = (cnt l).take j ++ [(cnt l)[j]] := by rw [List.take_succ_eq_append_getElem hjl]
      have hmem : (cnt l)[j] ∈ l := cnt_sub (List.getElem_mem hjl)
      have hbw := HB2.out.trans (hb.mono HB2.out.size)
      have hty := (HL.out.later hbw).types (by omega) _ hmem
      have hsz := HL.out.size _ hmem
      have hwf := HL.out.wf _ hmem
      have hno : freeB l (cnt l)[j] = false → solvedV l = false := fun h => by
        unfold solvedV
        rw [List.all_eq_false]
        exact ⟨_, List.getElem_mem hjl, by simp [h]⟩
      obtain ⟨x, hx⟩ : ∃ x, (cnt l)[j] = x := ⟨_, rfl⟩
      rw [hx] at c0 c1 c2' c3 htk hty hno hsz hwf
      obtain ⟨x0, x1, x2, ⟨A3, n3, c3'⟩, x4⟩ := x
      dsimp only [slv] at c0 c1 c2' c3 hty hsz hwf
      have hyes : freeB l (x0, x1, x2, (A3, n3, c3'), x4) = true → ((cnt l).take (j + 1)).all (freeB l) = true := fun h => by rw [htk, List.all_append, hok]; simp [h]
      have hfr : freeB l (x0, x1, x2, (A3, n3, c3'), x4) = (varsL [] (Fo.cons x1 x2 (A3, n3, c3') x4 .nil).pre).all fun v => (fnd l v).isNone := rfl
      have hFw : (Fo.cons x1 x2 (A3, n3, c3') x4 .nil).wf := ⟨hwf.2.1, hwf.2.2, trivial⟩
      have hLw := varsL_wf _ (Fo.wf_pre hFw) [] (fun v hv => by cases hv)
      have hFs : (Fo.cons x1 x2 (A3, n3, c3') x4 .nil).size < 100000 := by simp only [Fo.size]; omega
      have hVL := varsL_len (Fo.cons x1 x2 (A3, n3, c3') x4 .nil).pre []
      rw [Fo.pre_len] at hVL
      obtain ⟨w3, hw3⟩ : ∃ w3, wr.alloc (.cells #[.int .i64 x0, .int .i64 x1, .int .i64 x2, .slice A3 n3 c3'] 49) = w3 := ⟨_, rfl⟩
      have hb3 : Below wr.heap.size wr w3 := by rw [← hw3]; exact (Below.refl _ _).alloc (Nat.le_refl _) _
      have hB3 : w3.heap[wr.heap.size]? = some (.cells #[.int .i64 x0, .int .i64 x1, .int .i64 x2, .slice A3 n3 c3'] 49) := by rw [← hw3]; exact heap_alloc_new _ _
      have d0 : w3.cell? ⟨wr.heap.size, 0, none⟩ = some (.int .i64 x0) := cell_of_row w3 _ 0 _ _ (0, 0) hB3
      have d1 : w3.cell? ⟨wr.heap.size, 1, none⟩ = some (.int .i64 x1) := cell_of_row w3 _ 1 _ _ (0, 0) hB3
      have d2 : w3.cell? ⟨wr.heap.size, 2, none⟩ = some (.int .i64 x2) := cell_of_row w3 _ 2 _ _ (0, 0) hB3
      have d3 : w3.cell? ⟨wr.heap.size, 3, none⟩ = some (.slice A3 n3 c3') := cell_of_row w3 _ 3 _ _ (0, 0) hB3
      have hone := one_new w3 x1 x2 (A3, n3, c3') x4 (hty.1.later hb3)
      have hvs := vars_any _ _ _ _ (Nat.le_refl _) hone hFs hFw
      have hbA : Below w2.heap.size w2 (w3.alloc (.cells #[.int .i64 x1, .int .i64 x2, .slice A3 n3 c3'] 25)) := (hb.trans (hb3.mono hb.size)).alloc (Nat.le_trans hb.size hb3.size) _
      obtain ⟨L, hLd⟩ : ∃ L, varsL [] (Fo.cons x1 x2 (A3, n3, c3') x4 .nil).pre = L := ⟨_, rfl⟩
      rw [hLd] at hfr hLw hVL hvs
      have hVl : L.length ≤ 100000 := by simp at hVL; omega
      dsimp only [slv] at hvs
      have HY := Lib.hid hyes
      have HN := Lib.hid hno
      have HF := Lib.hid hfr
      have HLW := Lib.hid hLw
      have HVS := Lib.hid hvs
      have HBA := Lib.hid hbA
      have HX := Lib.hid hx
      have HCC := Lib.hid hC
      clear hyes hno hfr hLw hvs hbA hx hone hty hwf hFw hFs hVL hLd htk hB3 hb3 hok hb hbw hsz hmem hC
      go_wp2_with fail
      refine HVS.out.mono ?_
      clear HVS
      rintro e w4 ⟨vv, rfl, hRd, hb4⟩
      obtain ⟨AL, cL, rfl⟩ := hRd.form
      have HB4 := Lib.hid (HBA.out.trans (hb4.mono HBA.out.size))
      clear hb4 HBA d0 d1 d2 d3
      have HRD := Lib.hid hRd
      clear hRd
      go_wp2_with fail
      go_loopw [24] (fun s24 wi => ∃ i : Nat, s24 = .int .i64 i ∧ i ≤ L.length ∧ (L.take i).all (fun v => (fnd l v).isNone) = true ∧ Below w4.heap.size w4 wi) (fun s _ => L.length - (intOf s).toNat)
      case atStart => exact ⟨0, rfl, Nat.zero_le _, rfl, Below.refl _ _⟩
      case round =>
        obtain ⟨i, rfl, hi, hokI, hbi⟩ := hrel
        have hb2i := HB4.out.trans (hbi.mono HB4.out.size)
        by_cases hil : i < L.length
        · obtain ⟨_, hrd⟩ := HRD.out
          rcases hrd with ⟨h0, _⟩ | ⟨gb, goff, gcap, he, _, _, hgb, hgat⟩
          · omega
          injection he with e1 _ e3
          subst e1; subst e3
          have g0 : wr.cell? ⟨gb, goff + i, none⟩ = some (.int .i64 L[i]) := (hbi.cell (p := ⟨gb, goff + i, none⟩) hgb).trans (hgat i _ (by simp [ints, hil]))
          have htkI : L.take (i + 1) = L.take i ++ [L[i]] := by rw [List.take_succ_eq_append_getElem hil]
          have hwi := HLW.out L[i] (List.getElem_mem hil)
          have hff : (fnd l L[i]).isSome = true → freeB l (x0, x1, x2, (A3, n3, c3'), x4) = false := fun h => by
            rw [HF.out, List.all_eq_false]
            exact ⟨_, List.getElem_mem hil, by cases hf : fnd l L[i] <;> simp_all⟩
          obtain ⟨y, hy⟩ : ∃ y, L[i] = y := ⟨_, rfl⟩
          rw [hy] at g0 htkI hwi hff
          have hlk := (HM2.out.below hb2i).look_ok bindsTy y hwi
          obtain ⟨k2, i2, A5, c5, d5, hsh⟩ := mv_shape l y
          rw [hsh, mvl_look] at hlk
          dsimp only [tyVal] at hlk
          have HTK := Lib.hid htkI
          have HOK := Lib.hid hokI
          have HFF := Lib.hid hff
          have HBI := Lib.hid hbi
          have HYY := Lib.hid hy
          clear htkI hokI hff hbi hb2i hsh hwi hgat hy
          cases hs : (fnd l y).isSome
          · rw [hs] at hlk
            have hnn : (fnd l y).isNone = true := by cases hf : fnd l y <;> simp_all
            have HNN := Lib.hid hnn
            clear hnn hs
            go_wp2_with fail
            go_roundw
            case rel => exact ⟨i + 1, by go_num, by omega, by rw [HTK.out, List.all_append, HOK.out]; simp [HNN.out], HBI.out.alloc HBI.out.size _⟩
            case measure => simp [intOf]; omega
          · rw [hs] at hlk
            have hv := HN.out (HFF.out hs)
            have HV := Lib.hid hv
            have HBF := Lib.hid (HB2.out.trans ((HB4.out.trans ((HBI.out.alloc HBI.out.size (.cells #[.int .i64 k2, .int .i64 i2, .slice A5 c5 d5] 25)).mono HB4.out.size)).mono HB2.out.size))
            clear hv hs
            go_wp2_with fail
            go_ret
            exact ⟨by rw [HV.out]; rfl, HBF.out⟩
        · obtain rfl : i = L.length := by omega
          rw [List.take_length] at hokI
          have hv := HY.out (by rw [HF.out]; exact hokI)
          have HV := Lib.hid hv
          have HBI := Lib.hid hb2i
          clear hv hokI hbi hb2i
          go_wp2_with fail
          go_roundw
          case rel => exact ⟨j + 1, by go_num, by omega, HV.out, HBI.out⟩
          case measure => simp [intOf]; omega
    · obtain rfl : j = (cnt l).length := by omega
      rw [List.take_length] at hok
      have hv : solvedV l = true := hok
      have HV := Lib.hid hv
      have HBF := Lib.hid (HB2.out.trans (hb.mono HB2.out.size))
      clear hv hok hb hC
      go_wp2_with fail
      go_ret
      exact ⟨by rw [HV.out]; rfl, HBF.out⟩
theorem solved_iff (l : List Bnd) : solvedV l = true ↔ ∀ j (h : j < l.length), idx l l[j].1 = j → freeB l l[j] = true := by
  unfold solvedV
  rw [List.all_eq_true]
  constructor
  · intro h j hj hi
    obtain ⟨_, h1, _⟩ := idx_some hi
    exact h _ (cnt_mem.2 h1)
  · intro h b hb
    have h1 := cnt_mem.1 hb
    have hge : ¬ idx l b.1 < 0 := fun h2 => by rw [idx_none.1 h2] at h1; cases h1
    obtain ⟨j, hj⟩ := Int.eq_ofNat_of_zero_le (show 0 ≤ idx l b.1 by omega)
    obtain ⟨hjl, h2, _⟩ := idx_some hj
    rw [h1] at h2
    injection h2 with h2
    have := h j hjl (by rw [← h2]; exact hj)
    rwa [← h2] at this
set_option maxHeartbeats 4000000 in
set_option maxRecDepth 100000 in
theorem rsolved_bind (w : World) (l : List Bnd) (v : Value) (hl : BdG w l v 90000) :
    Calls Tryd.prog 17 #[v] w fun e w' => e = .returned (.bool (solvedV l)) ∧ Below w.heap.size w w' := by
  obtain ⟨A, c, rfl⟩ := hl.at_.form
  have hlen := hl.len
  go_enter Tryd.func17, Tryd.ntmps17
  go_wp2
  go_loopw [3] (fun s3 wr => ∃ j : Nat, s3 = .int .i64 j ∧ j ≤ l.length ∧ (∀ i (h : i < l.length), i < j → idx l l[i].1 = i → freeB l l[i] = true) ∧ Below w.heap.size w wr) (fun s _ => l.length - (intOf s).toNat)
  case atStart => exact ⟨0, rfl, Nat.zero_le _, fun i _ h => by omega, Below.refl _ _⟩
  case round =>
    obtain ⟨j, rfl, hj, hok, hb⟩ := hrel
    by_cases hjl : j < l.length
    · obtain ⟨b, off, rfl, hlt, c0, c1, c2', c3⟩ := (hl.at_.below hb).at j hjl
      have hty := (hl.later hb).types (by omega) _ (List.getElem_mem hjl)
      have hsz := hl.size _ (List.getElem_mem hjl)
      have hwf := hl.wf _ (List.getElem_mem hjl)
      have hno : idx l l[j].1 = j → freeB l l[j] = false → solvedV l = false := fun h1 h2 => by
        cases hv : solvedV l
        · rfl
        · have := (solved_iff l).1 hv j hjl h1
          rw [h2] at this; cases this
      have hyes : (idx l l[j].1 = j → freeB l l[j] = true) → ∀ i (h : i < l.length), i < j + 1 → idx l l[i].1 = i → freeB l l[i] = true := fun h i hi hij he => by
        by_cases e : i = j
        · subst e; exact h he
        · exact hok i hi (by omega) he
      have hcn : ∀ W, Below w.heap.size w W → Calls Tryd.prog 38 #[.slice (some ⟨b, off, none⟩) l.length c, .int .i64 j] W fun e w' => e = .returned (.bool (idx l l[j].1 == (j : Int))) ∧ Below W.heap.size W w' := fun W h => rcounts_any W l _ (hl.later h).at_ (by omega) j hjl
      have hfd : ∀ W (x : Int), Below w.heap.size w W → Calls Tryd.prog 34 #[.slice (some ⟨b, off, none⟩) l.length c, .int .i64 x] W fun e w' => e = .returned (.int .i64 (idx l x)) ∧ Below W.heap.size W w' := fun W x h => rfind_any W l _ (hl.later h).at_ (by omega) x
      obtain ⟨x, hx⟩ : ∃ x, l[j] = x := ⟨_, rfl⟩
      rw [hx] at c0 c1 c2' c3 hty hno hsz hwf hyes
      obtain ⟨z, hz⟩ : ∃ z, (idx l l[j].1 == (j : Int)) = z := ⟨_, rfl⟩
      have hzt : z = true ↔ idx l x.1 = j := by rw [← hz, hx]; simp
      rw [hz] at hcn
      obtain ⟨x0, x1, x2, ⟨A3, n3, c3'⟩, x4⟩ := x
      dsimp only [slv] at c0 c1 c2' c3 hty hsz hwf hno hyes hzt
      have hfr : freeB l (x0, x1, x2, (A3, n3, c3'), x4) = (varsL [] ((x1, x2, (none, 0, 0)) :: x4.pre)).all fun v => (fnd l v).isNone := by
        show (varsL [] ((x1, x2, (A3, n3, c3')) :: (x4.pre ++ []))).all _ = _
        rw [List.append_nil]
        rfl
      have hLw := varsL_wf ((x1, x2, (none, 0, 0)) :: x4.pre) (fun y hy => by
        rcases List.mem_cons.1 hy with rfl | hy
        · exact hwf.2.1
        · exact Fo.wf_pre hwf.2.2 y hy) [] (fun v hv => by cases hv)
      have hVL := varsL_len ((x1, x2, (none, 0, 0)) :: x4.pre) []
      simp only [List.length_cons, List.length_nil, Fo.pre_len] at hVL
      have hvs := rvars_any (x4.size + 1) x4 x1 x2 (.slice A3 n3 c3') wr [] (.slice none 0 0) (by omega) (by simp; omega) hty.1 ⟨rfl, .inl ⟨rfl, _, _, rfl⟩⟩
      obtain ⟨L, hLd⟩ : ∃ L, varsL [] ((x1, x2, (none, 0, 0)) :: x4.pre) = L := ⟨_, rfl⟩
      rw [hLd] at hfr hLw hVL hvs
      have hVl : L.length ≤ 100000 := by omega
      dsimp only [tyVal] at hvs
      have HY := Lib.hid hyes
      have HN := Lib.hid hno
      have HF := Lib.hid hfr
      have HZ := Lib.hid hzt
      have HVS := Lib.hid hvs
      have HCN := Lib.hid hcn
      have HFD := Lib.hid hfd
      have HB := Lib.hid hb
      have HX := Lib.hid hx
      clear hyes hno hfr hLw hvs hb hx hty hwf hVL hLd hok hsz hcn hfd hz hzt hl
      go_wp2_with fail
      refine HVS.out.mono ?_
      clear HVS
      rintro e w4 ⟨vv, rfl, hRd, hb4⟩
      obtain ⟨AL, cL, rfl⟩ := hRd.form
      have HB4 := Lib.hid (HB.out.trans (hb4.mono HB.out.size))
      clear hb4 c0 c1 c2' c3
      have HRD := Lib.hid hRd
      clear hRd
      go_wp2_with fail
      go_loopw [5] (fun s5 wi => ∃ i : Nat, s5 = .int .i64 i ∧ i ≤ L.length ∧ (z = true → (L.take i).all (fun v => (fnd l v).isNone) = true) ∧ (z = false → i = 0) ∧ Below w4.heap.size w4 wi) (fun s _ => L.length - (intOf s).toNat)
      case atStart => exact ⟨0, rfl, Nat.zero_le _, fun _ => rfl, fun _ => rfl, Below.refl _ _⟩
      case round =>
        obtain ⟨i, rfl, hi, hokI, hz0, hbi⟩ := hrel
        have hbI := HB4.out.trans (hbi.mono HB4.out.size)
        by_cases hil : i < L.length
        · obtain ⟨_, hrd⟩ := HRD.out
          rcases hrd with ⟨h0, _⟩ | ⟨gb, goff, gcap, he, _, _, hgb, hgat⟩
          · omega
          injection he with e1 _ e3
          subst e1; subst e3
          have htkI : L.take (i + 1) = L.take i ++ [L[i]] := by rw [List.take_succ_eq_append_getElem hil]
          have hff : (fnd l L[i]).isSome = true → freeB l (x0, x1, x2, (A3, n3, c3'), x4) = false := fun h => by
            rw [HF.out, List.all_eq_false]
            exact ⟨_, List.getElem_mem hil, by cases hf : fnd l L[i] <;> simp_all⟩
          have hga : ∀ W, Below w4.heap.size w4 W → W.cell? ⟨gb, goff + i, none⟩ = some (.int .i64 L[i]) := fun W h => (h.cell (p := ⟨gb, goff + i, none⟩) hgb).trans (hgat i _ (by simp [ints, hil]))
          obtain ⟨y, hy⟩ : ∃ y, L[i] = y := ⟨_, rfl⟩
          rw [hy] at htkI hff hga
          have hcn := HCN.out wr hbI
          have HTK := Lib.hid htkI
          have HOK := Lib.hid hokI
          have HFF := Lib.hid hff
          have HBI := Lib.hid hbi
          have HGA := Lib.hid hga
          have HYY := Lib.hid hy
          have HZ0 := Lib.hid hz0
          have HBII := Lib.hid hbI
          clear htkI hokI hff hbi hgat hy hga hz0 hbI
          go_wp2_with fail
          refine hcn.mono ?_
          clear hcn
          rintro e w5 ⟨rfl, hb5⟩
          have hb45 := HBI.out.trans (hb5.mono HBI.out.size)
          cases z with
          | false =>
            have hv := HY.out fun h => by have := HZ.out.2 h; cases this
            have HV := Lib.hid hv
            have HBF := Lib.hid (HBII.out.trans (hb5.mono HBII.out.size))
            clear hv hb5 hb45
            go_wp2_with fail
            go_roundw
            case rel => exact ⟨j + 1, by go_num, by omega, HV.out, HBF.out⟩
            case measure => simp [intOf]; omega
          | true =>
            have g0 := HGA.out w5 hb45
            have hfd := HFD.out w5 y (HB4.out.trans (hb45.mono HB4.out.size))
            have HB45 := Lib.hid hb45
            clear hb5 hb45
            go_wp2_with fail
            refine hfd.mono ?_
            clear hfd
            rintro e w6 ⟨rfl, hb6⟩
            have hb46 := HB45.out.trans (hb6.mono HB45.out.size)
            have HB46 := Lib.hid hb46
            clear hb6 hb46 g0
            by_cases hge : 0 ≤ idx l y
            · have hsome : (fnd l y).isSome = true := by
                cases hf : fnd l y with
                | none => have := idx_none.2 hf; omega
                | some b => rfl
              have f1 : decide (idx l y ≥ 0) = true := decide_eq_true hge
              have hv := HN.out (by first | exact HZ.out.1 rfl | exact HZ.out.1 trivial) (HFF.out hsome)
              have HV := Lib.hid hv
              clear hv hsome
              go_wp2_with fail
              go_ret
              exact ⟨by rw [HV.out]; rfl, HB4.out.trans (HB46.out.mono HB4.out.size)⟩
            · have hnn : (fnd l y).isNone = true := by rw [idx_none.1 (show idx l y < 0 by omega)]; rfl
              have f1 : decide (idx l y ≥ 0) = false := decide_eq_false hge
              have HNN := Lib.hid hnn
              clear hnn
              go_wp2_with fail
              go_roundw
              case rel => exact ⟨i + 1, by go_num, by omega, fun _ => (by rw [HTK.out, List.all_append, (by first | exact HOK.out rfl | exact HOK.out trivial : ((L.take i).all fun v => (fnd l v).isNone) = true)]; simp [HNN.out]), fun h => (by cases h), HB46.out⟩
              case measure => simp [intOf]; omega
        · obtain rfl : i = L.length := by omega
          rw [List.take_length] at hokI
          have hv := HY.out fun h => by rw [HF.out]; exact hokI (HZ.out.2 h)
          have HV := Lib.hid hv
          have HBI := Lib.hid hbI
          clear hv hokI hbi hbI
          go_wp2_with fail
          go_roundw
          case rel => exact ⟨j + 1, by go_num, by omega, HV.out, HBI.out⟩
          case measure => simp [intOf]; omega
    · obtain rfl : j = l.length := by omega
      have hv : solvedV l = true := (solved_iff l).2 fun i hi he => hok i hi hi he
      have HV := Lib.hid hv
      clear hv hok hl
      go_wp2_with fail
      go_ret
      exact ⟨by rw [HV.out]; rfl, hb⟩
end Go.Proofs.YtifdbmdfkhnojaaDoor
