/- The contract of span.Merge: it returns the one merged list that has the bytes of the spans, in memory of its own. -/
import Derived.Test.YtlifkfihpmkffaaSpB
import Derived.Test.YtlifkfihpmkffaaLexE
namespace Go.Proofs.Ytlifkfihpmkffaa
open Go.RowKit

theorem step_any (a c : Int) (acc : List Sp) (bv B : Nat) (W : World) (v : Value) (hcell : W.cell? ⟨bv, 0, none⟩ = some v) (hfr : W.frozen? ⟨bv, 0, none⟩ = false) (hB : bv < B) (hBs : B ≤ W.heap.size)
    (hown : W.ownsRow B 25 2 v acc.length (spCells acc)) (hlen : acc.length ≤ 1000000) :
    Calls Try.prog 39 #[.agg #[.int .i64 a, .int .i64 c], .pointer (some ⟨bv, 0, none⟩)] W (StepPost acc (a, c) bv B W) := by
  rcases List.eq_nil_or_concat acc with rfl | ⟨acc', t, rfl⟩
  · exact step_nil a c bv B W v hcell hfr hB hBs hown
  · simp only [List.concat_eq_append] at *
    by_cases hat : a ≤ t.2
    · exact step_join a c t acc' bv B W v hcell hfr hB hBs hown (by simp at hlen; omega) hat
    · exact step_new a c t acc' bv B W v hcell hfr hB hBs hown (by simp at hlen; omega) hat
theorem mergeAll_take (l : List Sp) (k : Nat) (hk : k < l.length) : mergeAll (l.take (k + 1)) = if l[k].1 < l[k].2 then mergeStep (mergeAll (l.take k)) l[k] else mergeAll (l.take k) := by
  rw [List.take_succ_eq_append_getElem hk]; unfold mergeAll; rw [List.foldl_append]; rfl
theorem mergeStep_length (acc : List Sp) (s : Sp) : (mergeStep acc s).length ≤ acc.length + 1 := by
  rcases List.eq_nil_or_concat acc with rfl | ⟨acc', t, rfl⟩
  · simp [mergeStep]
  · simp only [List.concat_eq_append]
    by_cases h : s.1 ≤ t.2
    · rw [mergeStep_join _ _ _ h]; simp
    · rw [mergeStep_new _ _ _ h]; simp
theorem mergeAll_length (l : List Sp) (k : Nat) : (mergeAll (l.take k)).length ≤ k := by
  induction k with
  | zero => simp [mergeAll]
  | succ k ih =>
    rcases Nat.lt_or_ge k l.length with h | h
    · rw [mergeAll_take l k h]
      split
      · have := mergeStep_length (mergeAll (l.take k)) l[k]; omega
      · omega
    · rw [List.take_of_length_le (by omega)] at ih ⊢
      omega

/-- What going through the rising spans owes. -/
def RisePost (l : List Sp) (bv : Nat) (w : World) (e : Ending) (w' : World) : Prop :=
  e = .returned (.tuple #[]) ∧ ∃ v' l', l'.Perm l ∧ l'.Pairwise (fun (a b : Sp) => a.1 ≤ b.1) ∧ w'.cell? ⟨bv, 0, none⟩ = some v' ∧ w'.ownsRow (bv + 1) 25 2 v' (mergeAll l').length (spCells (mergeAll l')) ∧ Below bv w w'
theorem own_mono {w : World} {B B' : Nat} {e : TypeId} {size : Nat} {v : Value} {n : Nat} {xs : List Value} (h : w.ownsRow B e size v n xs) (hB : B' ≤ B) : w.ownsRow B' e size v n xs := by
  obtain ⟨h1, h2⟩ := h
  refine ⟨h1, ?_⟩
  rcases h2 with h2 | ⟨g, cap, cur, hv, hg, r⟩
  · exact .inl h2
  · exact .inr ⟨g, cap, cur, hv, by omega, r⟩

set_option maxHeartbeats 2000000 in
set_option maxRecDepth 100000 in
theorem rising_any (w : World) (v : Value) (l : List Sp) (bv : Nat) (h : RdS w v l) (hl : l.length ≤ 1000000) (hcell : w.cell? ⟨bv, 0, none⟩ = some (.slice none 0 0)) (hfr : w.frozen? ⟨bv, 0, none⟩ = false) (hlt : bv < w.heap.size) :
    Calls Try.prog 38 #[v, .func (.func 39) #[] #[.pointer (some ⟨bv, 0, none⟩)]] w (RisePost l bv w) := by
  go_enter Try.func38, Try.ntmps38
  go_wp2_with fail
  refine (clone_any w v l h hl).mono ?_
  rintro e w1 ⟨v2, rfl, hown1, hb1⟩
  go_wp2_with fail
  refine (sort_any w1 w.heap.size v2 l hown1 hl).mono ?_
  rintro e w2 ⟨rfl, l', hperm, hpair, hrd, hb2⟩
  have hll : l'.length = l.length := hperm.length_eq
  have hs1 := hb1.size
  have hs2 := hb2.size
  have hbw2 : Below w.heap.size w w2 := hb1.trans (hb2.mono (Nat.le_refl _))
  have hc2 : w2.cell? ⟨bv, 0, none⟩ = some (.slice none 0 0) := (hbw2.cell (p := ⟨bv, 0, none⟩) hlt).trans hcell
  have hf2 : w2.frozen? ⟨bv, 0, none⟩ = false := (hbw2.frozen (p := ⟨bv, 0, none⟩) hlt).trans hfr
  by_cases h0 : 0 < l'.length
  · obtain ⟨g, cg, hvg, hgb, hgl⟩ := own_shape hown1 (by omega)
    obtain ⟨b, off, cap, rfl, _, _, hbl, hc⟩ := hrd.form h0
    have hbg : w.heap.size ≤ b := by
      injection hvg with h1; injection h1 with h1; injection h1 with h1; omega
    have Hc := Lib.hid hc
    have Hpair := Lib.hid hpair
    have Hperm := Lib.hid hperm
    have hl2 : l'.length ≤ 1000000 := by omega
    clear hc hpair hperm hvg hown1 hrd h hll
    go_wp2_with fail
    go_loopw [13] (fun t wr => ∃ (k : Nat) (vv : Value), k ≤ l'.length ∧ t = .int .i64 k ∧ wr.cell? ⟨bv, 0, none⟩ = some vv ∧ wr.frozen? ⟨bv, 0, none⟩ = false ∧ wr.ownsRow w2.heap.size 25 2 vv (mergeAll (l'.take k)).length (spCells (mergeAll (l'.take k))) ∧ Mid bv w2.heap.size w2 wr) (fun t _ => l'.length - (intOf t).toNat)
    case atStart => exact ⟨0, .slice none 0 0, Nat.zero_le _, rfl, hc2, hf2, World.ownsRow_nil _ _ _ _, Mid.refl _ _ _⟩
    case round =>
      obtain ⟨k, vv, hk, rfl, hcr, hfr2, hown, hmid⟩ := hrel
      have hsz := hmid.size
      by_cases hkl : k < l'.length
      · obtain ⟨d0, d1⟩ := Hc.out k hkl
        have hblk := hmid.block b hbl (by omega)
        rw [← World.cell?_of_block (a := ⟨b, off + k * 2, none⟩) hblk] at d0
        rw [← World.cell?_of_block (a := ⟨b, off + k * 2 + 1, none⟩) hblk] at d1
        have hm := mergeAll_take l' k hkl
        have hml := mergeAll_length l' k
        obtain ⟨M, hM⟩ : ∃ M, M = mergeAll (l'.take k) := ⟨_, rfl⟩
        rw [← hM] at hm hml hown
        have Hm := Lib.hid hm
        have HM := Lib.hid hM
        generalize l'[k] = s at *
        obtain ⟨s1, s2⟩ := s
        clear hm hM hblk
        have hbw : b < wr.heap.size := by omega
        have hbvw : bv < wr.heap.size := by omega
        by_cases hlt2 : s1 < s2
        · have hd : decide (s1 < s2) = true := decide_eq_true hlt2
          go_wp2_with fail
          refine (hasBytes_any _ _ _).mono ?_
          rintro e w3 ⟨rfl, hb3⟩
          have z3 := hb3.size
          have j0 : w3.cell? ⟨wr.heap.size, 0, none⟩ = some (.int .i64 s1) := (hb3.cell (p := ⟨wr.heap.size, 0, none⟩) (by simp)).trans (by go_simp)
          have j1 : w3.cell? ⟨wr.heap.size, 1, none⟩ = some (.int .i64 s2) := (hb3.cell (p := ⟨wr.heap.size, 1, none⟩) (by simp)).trans (by go_simp)
          have j2 : w3.cell? ⟨bv, 0, none⟩ = some vv := (hb3.cell (p := ⟨bv, 0, none⟩) (by simp; omega)).trans ((World.cell?_alloc_lt _ _ _ hbvw).trans hcr)
          have j3 : w3.frozen? ⟨bv, 0, none⟩ = false := (hb3.frozen (p := ⟨bv, 0, none⟩) (by simp; omega)).trans ((World.frozen?_alloc_old _ _ _ (by simp; omega)).trans hfr2)
          have own3 : w3.ownsRow w2.heap.size 25 2 vv M.length (spCells M) := own_below (hown.alloc _) hb3 (Nat.le_refl _)
          have mid3 : Mid bv w2.heap.size w2 w3 := hmid.trans (Mid.of_below (((Below.refl _ _).alloc hsz _).trans (hb3.mono (by simp; omega))))
          have z4 : w2.heap.size ≤ w3.heap.size := by simp at z3; omega
          go_wp2_with fail
          refine (step_any s1 s2 M bv w2.heap.size w3 vv j2 j3 (by omega) z4 own3 (by omega)).mono ?_
          rintro e w4 ⟨rfl, v4, q1, q2, q3, q4⟩
          go_wp2_with fail
          go_roundw
          case rel =>
            refine ⟨k + 1, v4, by omega, by go_num, q1, q2, ?_, mid3.trans q4⟩
            rw [Hm.out, if_pos hlt2]
            exact q3
          case measure => simp [intOf]; omega
        · have hd : decide (s1 < s2) = false := decide_eq_false hlt2
          go_wp2_with fail
          refine (hasBytes_any _ _ _).mono ?_
          rintro e w3 ⟨rfl, hb3⟩
          have z3 := hb3.size
          have j0 : w3.cell? ⟨wr.heap.size, 0, none⟩ = some (.int .i64 s1) := (hb3.cell (p := ⟨wr.heap.size, 0, none⟩) (by simp)).trans (by go_simp)
          have j1 : w3.cell? ⟨wr.heap.size, 1, none⟩ = some (.int .i64 s2) := (hb3.cell (p := ⟨wr.heap.size, 1, none⟩) (by simp)).trans (by go_simp)
          have j2 : w3.cell? ⟨bv, 0, none⟩ = some vv := (hb3.cell (p := ⟨bv, 0, none⟩) (by simp; omega)).trans ((World.cell?_alloc_lt _ _ _ hbvw).trans hcr)
          have j3 : w3.frozen? ⟨bv, 0, none⟩ = false := (hb3.frozen (p := ⟨bv, 0, none⟩) (by simp; omega)).trans ((World.frozen?_alloc_old _ _ _ (by simp; omega)).trans hfr2)
          have own3 : w3.ownsRow w2.heap.size 25 2 vv M.length (spCells M) := own_below (hown.alloc _) hb3 (Nat.le_refl _)
          have mid3 : Mid bv w2.heap.size w2 w3 := hmid.trans (Mid.of_below (((Below.refl _ _).alloc hsz _).trans (hb3.mono (by simp; omega))))
          have z4 : w2.heap.size ≤ w3.heap.size := by simp at z3; omega
          go_wp2_with fail
          go_roundw
          case rel =>
            refine ⟨k + 1, vv, by omega, by go_num, j2, j3, ?_, mid3⟩
            rw [Hm.out, if_neg (by omega)]
            exact own3
          case measure => simp [intOf]; omega
      · have hke : k = l'.length := by omega
        subst hke
        rw [List.take_length] at hown
        go_wp2_with fail
        go_end0
        exact ⟨rfl, vv, l', Hperm.out, Hpair.out, hcr, own_mono hown (by omega), (hbw2.mono (by omega)).trans (hmid.below (by omega))⟩
  · have hnil : l' = [] := List.eq_nil_of_length_eq_zero (by omega)
    subst hnil
    obtain ⟨A, cc, rfl⟩ := hrd.nil
    clear hrd hown1
    go_wp2_with fail
    refine wp_loop_rounds 1 ?_
    rw [rounds_succ]
    go_wp2_with fail
    go_end0
    exact ⟨rfl, .slice none 0 0, [], hperm, hpair, hc2, World.ownsRow_nil _ _ _ _, hbw2.mono (by omega)⟩

/-- What Merge owes: the merged list that has the spans' bytes, in memory of its own. -/
def MergePost (l : List Sp) (w : World) (e : Ending) (w' : World) : Prop :=
  ∃ v M, e = .returned v ∧ w'.ownsRow w.heap.size 25 2 v M.length (spCells M) ∧ Canon M ∧ (∀ i, Cov i M ↔ Cov i l) ∧ Below w.heap.size w w'

set_option maxHeartbeats 2000000 in
set_option maxRecDepth 100000 in
theorem merge_any (w : World) (v : Value) (l : List Sp) (h : RdS w v l) (hl : l.length ≤ 1000000) : Calls Try.prog 14 #[v] w (MergePost l w) := by
  have h1 : RdS (w.alloc (.cells #[.slice none 0 0] 22)) v l := Rd.alloc h _
  go_enter Try.func14, Try.ntmps14
  go_wp2_with fail
  refine (rising_any _ v l w.heap.size h1 hl (by go_simp) (by go_simp) (by simp)).mono ?_
  rintro e w1 ⟨rfl, v', l', hperm, hpair, hc, hown, hb⟩
  go_wp2_with fail
  go_ret
  obtain ⟨m1, m2, _⟩ := mergeAll_ok l' hpair
  exact ⟨v', mergeAll l', rfl, own_mono hown (Nat.le_succ _), m1, fun i => (m2 i).trans (Cov.perm hperm i), ((Below.refl _ _).alloc (Nat.le_refl _) _).trans hb⟩
end Go.Proofs.Ytlifkfihpmkffaa
