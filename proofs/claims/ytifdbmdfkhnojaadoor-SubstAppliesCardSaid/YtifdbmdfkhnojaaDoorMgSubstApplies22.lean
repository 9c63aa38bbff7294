/- Texts of one proof, one behind the other. -/
import Derived.Test.YtifdbmdfkhnojaaDoorMgSubstApplies21
/- Appends of binds; subst.counting. -/
namespace Go.Proofs.YtifdbmdfkhnojaaDoor
open Go.RowKit Go.Shelf Go.Maps Go.WideShapes
attribute [local go_sem ↓] builtin_app
theorem bdInfo : (Tryd.prog.info? 49).map (fun i => (i.zero, i.size, i.bytes)) = some (some (.agg #[.int .i64 0, .int .i64 0, .int .i64 0, .slice none 0 0]), 4, 48) := by kernel_rfl
def bds (L : List Bnd) : List Value := L.flatMap bdC
theorem bds_len (L : List Bnd) : (bds L).length = L.length * 4 := by
  induction L with
  | nil => rfl
  | cons x L ih => simp only [bds, List.flatMap_cons, List.length_append, List.length_cons] at ih ⊢; rw [ih]; simp [bdC]; omega
theorem bds_app (a b : List Bnd) : bds (a ++ b) = bds a ++ bds b := by simp [bds]
theorem bds_one (L : List Bnd) : ∀ u ∈ bds L, u.oneCell' = true := by
  intro u hu
  obtain ⟨b, _, hu⟩ := List.mem_flatMap.1 hu
  simp only [bdC, List.mem_cons, List.not_mem_nil, or_false] at hu
  rcases hu with rfl | rfl | rfl | rfl <;> rfl
theorem bds_get (L : List Bnd) (i : Nat) (hi : i < L.length) : (bds L)[i * 4]? = some (.int .i64 L[i].1) ∧ (bds L)[i * 4 + 1]? = some (.int .i64 L[i].2.1) ∧ (bds L)[i * 4 + 2]? = some (.int .i64 L[i].2.2.1) ∧ (bds L)[i * 4 + 3]? = some (slv L[i].2.2.2.1) := by
  induction L generalizing i with
  | nil => simp at hi
  | cons x L ih =>
    cases i with
    | zero => simp [bds, bdC]
    | succ i =>
      have := ih i (by simpa using hi)
      have e : ∀ j, (bds (x :: L))[(i + 1) * 4 + j]? = (bds L)[i * 4 + j]? := by
        intro j
        rw [show bds (x :: L) = bdC x ++ bds L by simp [bds], List.getElem?_append_right (by simp [bdC]; omega)]
        congr 1
        simp [bdC]; omega
      have e0 := e 0
      simp only [Nat.add_zero] at e0
      simp only [List.getElem_cons_succ]
      exact ⟨e0.trans this.1, (e 1).trans this.2.1, (e 2).trans this.2.2.1, (e 3).trans this.2.2.2⟩
/-- An append of binds. -/
theorem app_bd (W : World) (base : Nat) (v : Value) (L : List Bnd) (own : W.ownsRow base 49 4 v L.length (bds L)) (vx : Value) (L2 : List Bnd) (rd : Rd W 4 vx L2.length (bds L2)) (hl : L.length + L2.length ≤ 10000000) (hbase : base ≤ W.heap.size) :
    ∃ v' W', (app_ #[22, 22] 22 #[v, vx]).run Tryd.prog W = .ok v' W' ∧ W'.ownsRow base 49 4 v' (L ++ L2).length (bds (L ++ L2)) ∧ Below base W W' ∧ KeepT 25 W W' ∧ W.grownBy W' v.ownBlock ∧ (v'.ownBlock = v.ownBlock ∨ v'.ownBlock = some W.heap.size) := by
  obtain ⟨i0, hi0, hz0, hz1, hz2⟩ := info_parts bdInfo
  obtain ⟨v1, w1, hrun, hown, hg, hat⟩ := run_append_rd (P := Tryd.prog) W base 22 22 49 i0 _ 4 48 Tryd.underlying22 hi0 hz0 hz1 hz2 rfl (by omega) v _ _ own vx _ _ rd (bds_one _) (by unfold maxLen; omega) (by omega) hbase
  refine ⟨v1, w1, hrun, ?_, (Below.refl _ _).grown hg hbase (fun k e => (own.lt k e).1), KeepT.grown hg (row_not own (by decide)), hg, hat⟩
  rw [List.length_append, bds_app]
  exact hown
/-- A row of binds of one's own, whose types lie below B, reads as binds. -/
theorem own_bdV {W : World} {base : Nat} {v : Value} {L : List Bnd} (own : W.ownsRow base 49 4 v L.length (bds L)) (ht : ∀ x ∈ L, TyV W.heap.size W x.2.2.2.2 (slv x.2.2.2.1)) : BdV W.heap.size W L v := by
  obtain ⟨_, hr⟩ := Rd.of_own own
  rcases hr with ⟨h0, A, c, rfl⟩ | ⟨b, off, cap, rfl, hnc, hcm, hb, hat⟩
  · exact ⟨A, c, by rw [h0], fun h => by omega, ht⟩
  · refine ⟨_, cap, rfl, fun _ => ⟨b, off, rfl, hb, hnc, hcm, fun i hi => ?_⟩, ht⟩
    obtain ⟨g0, g1, g2, g3⟩ := bds_get L i hi
    exact ⟨hat _ _ g0, by rw [Nat.add_assoc]; exact hat _ _ g1, by rw [Nat.add_assoc]; exact hat _ _ g2, by rw [Nat.add_assoc]; exact hat _ _ g3⟩
theorem boolsTy : MapTy 67 4 (.bool false) := ⟨Tryd.underlying67, zeroB⟩
/-- Which variables were seen. -/
def seen (l : List Bnd) : Int → Option Value := fun v => (fnd l v).map fun _ => .bool true
theorem seen_getD (l : List Bnd) (v : Int) : (seen l v).getD (.bool false) = .bool (fnd l v).isSome := by
  unfold seen
  cases fnd l v <;> rfl
theorem seen_snoc (l : List Bnd) (b : Bnd) (v : Int) : seen (l ++ [b]) v = upd (seen l) b.1 (.bool true) v := by
  unfold seen upd
  rw [fnd_app]
  by_cases h : v = b.1
  · subst h
    cases fnd l b.1 <;> simp [fnd]
  · have : fnd [b] v = none := by simp [fnd, Ne.symm h]
    rw [this]; simp [h]
set_option maxHeartbeats 2000000 in
set_option maxRecDepth 100000 in
theorem counting_any (w : World) (l : List Bnd) (v : Value) (hl : BdV w.heap.size w l v) (hw : BdW l) (hs : l.length ≤ 1000000) :
    Calls Tryd.prog 40 #[v] w fun e w' => ∃ v', e = .returned v' ∧ BdV w'.heap.size w' (cnt l) v' ∧ Below w.heap.size w w' ∧ (∀ g, v'.ownBlock = some g → w.heap.size ≤ g) := by
  obtain ⟨A, c, rfl⟩ := hl.form
  have hmm := @run_makeMap Tryd.prog
  have k1 := MapF.made w
  have hb0 : Below w.heap.size w (w.alloc (Obj.map #[] 0)) := (Below.refl _ w).alloc (Nat.le_refl _) _
  have K1 := Lib.hid k1
  clear k1
  go_enter Tryd.func40, Tryd.ntmps40
  go_wp2_with fail
  go_loopw [4, 10] (fun s4 s10 wr => ∃ j : Nat, s10 = .int .i64 j ∧ j ≤ l.length ∧ wr.ownsRow (w.heap.size + 1) 49 4 s4 (cnt (l.take j)).length (bds (cnt (l.take j))) ∧ (∃ S, MapF (seen (l.take j)) S j w.heap.size wr) ∧ Below w.heap.size w wr ∧ w.heap.size + 1 ≤ wr.heap.size) (fun _ i _ => l.length - (intOf i).toNat)
  case atStart => exact ⟨0, rfl, Nat.zero_le _, ⟨rfl, .inl ⟨rfl, rfl⟩⟩, ⟨0, K1.out⟩, hb0, by simp⟩
  case round =>
    obtain ⟨j, rfl, hj, hown, ⟨S, hmp⟩, hb, hsz⟩ := hrel
    by_cases hjl : j < l.length
    · obtain ⟨b, off, rfl, hlt, c0, c1, c2, c3⟩ := (hl.below hb).at j hjl
      have htk : l.take (j + 1) = l.take j ++ [l[j]] := by rw [List.take_succ_eq_append_getElem hjl]
      have hcn := cnt_snoc (l.take j) l[j]
      have hwj := (hw l[j] (List.getElem_mem hjl)).1
      obtain ⟨x, hx⟩ : ∃ x, l[j] = x := ⟨_, rfl⟩
      rw [hx] at c0 c1 c2 c3 htk hcn hwj
      obtain ⟨P, hP⟩ : ∃ P, l.take j = P := ⟨_, rfl⟩
      rw [hP] at hown hmp htk hcn
      have hPl : P.length = j := by rw [← hP]; simp; omega
      obtain ⟨x0, x1, x2, ⟨A3, n3, c3'⟩, x4⟩ := x
      dsimp only [slv] at c0 c1 c2 c3 hwj hcn
      obtain ⟨w1, hw1⟩ : ∃ w1, wr.alloc (.cells #[.int .i64 x0, .int .i64 x1, .int .i64 x2, .slice A3 n3 c3'] 49) = w1 := ⟨_, rfl⟩
      have hb1 : Below w.heap.size w w1 := by rw [← hw1]; exact hb.alloc hb.size _
      have hs1 : w1.heap.size = wr.heap.size + 1 := by rw [← hw1]; simp
      have hB1 : w1.heap[wr.heap.size]? = some (.cells #[.int .i64 x0, .int .i64 x1, .int .i64 x2, .slice A3 n3 c3'] 49) := by rw [← hw1]; exact heap_alloc_new _ _
      have hm1 : MapF (seen P) S j w.heap.size w1 := by rw [← hw1]; exact hmp.kept (World.grownBy_alloc _ _ none) (by simp)
      have ho1 : w1.ownsRow (w.heap.size + 1) 49 4 u4 (cnt P).length (bds (cnt P)) := by rw [← hw1]; exact hown.alloc _
      have hlk := hm1.look boolsTy x0 hwj
      rw [seen_getD] at hlk
      have d0 : w1.cell? ⟨wr.heap.size, 0, none⟩ = some (.int .i64 x0) := cell_of_row w1 _ 0 _ _ (0, 0) hB1
      have HM := Lib.hid hm1
      have HO := Lib.hid ho1
      have HB := Lib.hid hb1
      have HTK := Lib.hid htk
      have HCN := Lib.hid hcn
      have HW := Lib.hid hwj
      have HP := Lib.hid hP
      have HBX := Lib.hid hB1
      have HX := Lib.hid hx
      have HPL := Lib.hid hPl
      have HSZ := Lib.hid hs1
      have HL := Lib.hid hl
      clear hm1 ho1 hb1 htk hcn hwj hP hB1 hmp hown hb hx hPl hs1 hl
      cases hse : (fnd P x0).isSome
      · rw [hse] at hlk HCN
        obtain ⟨W2, run1, m1, g1, o1, s1⟩ := HM.out.put boolsTy (by omega) x0 HW.out (.bool true)
        have hB2 := (o1 wr.heap.size (by have := HM.out.lt; have := HSZ.out; omega)).trans HBX.out
        have e0 : W2.cell? ⟨wr.heap.size, 0, none⟩ = some (.int .i64 x0) := cell_of_row W2 _ 0 _ _ (0, 0) hB2
        have e1 : W2.cell? ⟨wr.heap.size, 1, none⟩ = some (.int .i64 x1) := cell_of_row W2 _ 1 _ _ (0, 0) hB2
        have e2 : W2.cell? ⟨wr.heap.size, 2, none⟩ = some (.int .i64 x2) := cell_of_row W2 _ 2 _ _ (0, 0) hB2
        have e3 : W2.cell? ⟨wr.heap.size, 3, none⟩ = some (.slice A3 n3 c3') := cell_of_row W2 _ 3 _ _ (0, 0) hB2
        have ow2 : W2.ownsRow (w.heap.size + 1) 49 4 u4 (cnt P).length (bds (cnt P)) := HO.out.kept g1 (by
          rcases HO.out.2 with ⟨rfl, _⟩ | ⟨g, cap, cur, rfl, hg, _⟩
          · exact .inl rfl
          · exact .inr (by simp [Value.ownBlock]; omega))
        have hcl := cnt_len P
        obtain ⟨v3, W3, run2, o3, b3, k3, g3, _⟩ := app_bd (W2.alloc (.cells #[.int .i64 x0, .int .i64 x1, .int .i64 x2, .slice A3 n3 c3'] 49)) (w.heap.size + 1) u4 (cnt P) (ow2.alloc _) (.slice (some ⟨W2.heap.size, 0, none⟩) 1 1) [(x0, x1, x2, (A3, n3, c3'), x4)] (rd_new W2 [.int .i64 x0, .int .i64 x1, .int .i64 x2, .slice A3 n3 c3'] _ 4 1 rfl (by unfold maxLen; omega)) (by have := HPL.out; simp; omega) (by have := HSZ.out; simp; omega)
        have hfin : ∃ S, MapF (seen (P ++ [(x0, x1, x2, (A3, n3, c3'), x4)])) S (j + 1) w.heap.size W3 := by
          refine ⟨_, ((m1.kept (World.grownBy_alloc _ _ none) (by simp)).kept g3 ?_).ext fun n _ => (seen_snoc P (x0, x1, x2, (A3, n3, c3'), x4) n).symm⟩
          intro e
          have := (ow2.lt _ e.symm).1
          omega
        have hbb : Below w.heap.size w W3 := (HB.out.trans ((Below.refl _ _).grown g1 HB.out.size (fun k e => by cases e; exact Nat.le_refl _))).trans (((Below.refl _ W2).alloc (by have := HB.out.size; omega) _).trans (b3.mono (by omega)))
        have hsz3 : w.heap.size + 1 ≤ W3.heap.size := by have h3 := b3.size; have hB := HB.out.size; simp at h3; omega
        have HF := Lib.hid (And.intro o3 (And.intro hfin (And.intro hbb hsz3)))
        clear hB2 ow2 o3 b3 k3 g3 hfin hbb hsz3 m1 g1 o1 s1 hcl
        go_wp2_with fail
        go_roundw
        case rel =>
          have hcn := HCN.out
          simp only [Bool.false_eq_true, if_false] at hcn
          refine ⟨j + 1, by go_num, by omega, ?_, ?_, HF.out.2.2.1, HF.out.2.2.2⟩
          · rw [HTK.out, hcn]; exact HF.out.1
          · rw [HTK.out]; exact HF.out.2.1
        case measure => simp [intOf]; omega
      · rw [hse] at hlk HCN
        have hfin : ∃ S, MapF (seen (P ++ [(x0, x1, x2, (A3, n3, c3'), x4)])) S (j + 1) w.heap.size w1 := by
          refine ⟨_, (HM.out.le (Nat.le_succ _)).ext fun n _ => ?_⟩
          rw [seen_snoc]
          unfold upd
          split
          · rename_i h
            subst h
            unfold seen
            cases h2 : fnd P n with
            | none => rw [h2] at hse; cases hse
            | some b => rfl
          · rfl
        have HF := Lib.hid hfin
        clear hfin
        go_wp2_with fail
        go_roundw
        case rel =>
          have hcn := HCN.out
          simp only [if_true] at hcn
          refine ⟨j + 1, by go_num, by omega, ?_, ?_, HB.out, by have := HSZ.out; omega⟩
          · rw [HTK.out, hcn]; exact HO.out
          · rw [HTK.out]; exact HF.out
        case measure => simp [intOf]; omega
    · obtain rfl : j = l.length := by omega
      rw [List.take_length] at hown hmp
      have hfin : BdV wr.heap.size wr (cnt l) u4 := own_bdV hown fun x hx => by
        obtain ⟨_, _, _, _, h2⟩ := hl
        exact (h2 x (cnt_sub hx)).later hb
      have hgg : ∀ g, u4.ownBlock = some g → w.heap.size ≤ g := fun g h => by have := (hown.lt g h).1; omega
      have HF := Lib.hid hfin
      have HB := Lib.hid hb
      have HG := Lib.hid hgg
      clear hfin hb hown hmp hl hgg
      go_wp2_with fail
      go_ret
      exact ⟨_, rfl, HF.out, HB.out, HG.out⟩
end Go.Proofs.YtifdbmdfkhnojaaDoor
