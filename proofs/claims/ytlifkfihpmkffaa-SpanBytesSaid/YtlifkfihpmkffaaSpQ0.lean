/- The document's answer for merged spans: what holds at the heads of its loops, and what a round does to it. -/
import Derived.Test.YtlifkfihpmkffaaSpA
import Derived.Test.YtlifkfihpmkffaaSpR
import Derived.Test.YtlifkfihpmkffaaMemA
import Derived.Test.YtlifkfihpmkffaaLexE
namespace Go.Proofs.Ytlifkfihpmkffaa
open Go.RowKit

theorem own_form {w : World} {base : Nat} {e : TypeId} {size : Nat} {v : Value} {n : Nat} {xs : List Value} (h : w.ownsRow base e size v n xs) : ∃ A c, v = .slice A n c ∧ n ≤ c ∧ c ≤ maxLen ∧ (0 < n → ∃ g, A = some ⟨g, 0, none⟩ ∧ base ≤ g ∧ g < w.heap.size) := by
  rcases h.2 with ⟨rfl, rfl⟩ | ⟨g, cap, cur, rfl, hb, hg, hnc, hcm, _⟩
  · exact ⟨_, _, rfl, Nat.le_refl _, by unfold maxLen; omega, fun h => by omega⟩
  · exact ⟨_, _, rfl, hnc, hcm, fun _ => ⟨g, rfl, hb, (Array.getElem?_eq_some_iff.1 hg).1⟩⟩
def RMRel (l : List Sp) (w : World) (t3 t4 : Value) (wr : World) : Prop :=
  ∃ k : Nat, k ≤ l.length ∧ t4 = .int .i64 k ∧ wr.ownsRow w.heap.size 25 2 t3 (refAll (l.take k)).length (spCells (refAll (l.take k))) ∧ Below w.heap.size w wr
def RIRel (out : List Sp) (F : Sp × List Sp) (g : Nat) (w1 : World) (t6 t7 : Value) (wr : World) : Prop :=
  ∃ (j : Nat) (s : Sp) (rest : List Sp), j ≤ out.length ∧ t7 = .int .i64 j ∧ refFold (out.drop j) s rest = F ∧ rest.length ≤ j ∧ wr.cell? ⟨g, 0, none⟩ = some (.int .i64 s.1) ∧ wr.cell? ⟨g, 1, none⟩ = some (.int .i64 s.2) ∧
    wr.frozen? ⟨g, 0, none⟩ = false ∧ wr.frozen? ⟨g, 1, none⟩ = false ∧ wr.ownsRow (g + 1) 25 2 t6 rest.length (spCells rest) ∧ Below g w1 wr ∧ g < wr.heap.size ∧ (rest.length = 0 → t6 = .slice none 0 0)
theorem refFold_step (out : List Sp) (j : Nat) (hj : j < out.length) (s : Sp) (rest : List Sp) :
    refFold (out.drop j) s rest = if out[j].1 ≤ s.2 ∧ s.1 ≤ out[j].2 then refFold (out.drop (j + 1)) (min s.1 out[j].1, max s.2 out[j].2) rest else refFold (out.drop (j + 1)) s (rest ++ [out[j]]) := by
  rw [List.drop_eq_getElem_cons hj, refFold]
theorem ri_join (out : List Sp) (F : Sp × List Sp) (g : Nat) (w1 wr : World) (v6 : Value) (j : Nat) (rest : List Sp) (t1 t2 a1 a2 : Int) (o : Obj) (hjl : j < out.length) (hj1 : t1 ≤ a2) (hj2 : a1 ≤ t2)
    (Hst : F = if t1 ≤ a2 ∧ a1 ≤ t2 then refFold (List.drop (j + 1) out) (min a1 t1, max a2 t2) rest else refFold (List.drop (j + 1) out) (a1, a2) (rest ++ [(t1, t2)])) (hrj : rest.length ≤ j)
    (q0 : wr.cell? ⟨g, 0, none⟩ = some (.int .i64 a1)) (q1 : wr.cell? ⟨g, 1, none⟩ = some (.int .i64 a2)) (q2 : wr.frozen? ⟨g, 0, none⟩ = false) (q3 : wr.frozen? ⟨g, 1, none⟩ = false)
    (hrest : wr.ownsRow (g + 1) 25 2 v6 rest.length (spCells rest)) (hb : Below g w1 wr) (hgl : g < wr.heap.size) (hnil : rest.length = 0 → v6 = .slice none 0 0) :
    RIRel out F g w1 v6 (.int .i64 (↑j + 1)) (((wr.setCell ⟨g, 0, none⟩ (.int .i64 (if t1 < a1 then t1 else a1))).setCell ⟨g, 1, none⟩ (.int .i64 (if a2 < t2 then t2 else a2))).alloc o) := by
  rw [if_pos ⟨hj1, hj2⟩] at Hst
  have e1 : (if t1 < a1 then t1 else a1) = min a1 t1 := by split <;> omega
  have e2 : (if a2 < t2 then t2 else a2) = max a2 t2 := by split <;> omega
  refine ⟨j + 1, (min a1 t1, max a2 t2), rest, hjl, by go_num, Hst.symm, by omega, ?_, ?_, ?_, ?_, ?_, ?_, by simp; omega, hnil⟩
  · rw [e1]; go_simp
  · rw [e2]; go_simp
  · go_simp
  · go_simp
  · exact (ownsRow_setCell_below (ownsRow_setCell_below hrest (by simp) _) (by simp) _).alloc _
  · exact ((hb.setCell (p := ⟨g, 0, none⟩) (Nat.le_refl _) _).setCell (p := ⟨g, 1, none⟩) (Nat.le_refl _) _).alloc (by simp; omega) _
theorem ri_app (out : List Sp) (F : Sp × List Sp) (g : Nat) (w1 wr w2 : World) (v6 v6' : Value) (j : Nat) (rest : List Sp) (t1 t2 a1 a2 : Int) (o o' : Obj) (hjl : j < out.length) (hno : ¬ (t1 ≤ a2 ∧ a1 ≤ t2))
    (Hst : F = if t1 ≤ a2 ∧ a1 ≤ t2 then refFold (List.drop (j + 1) out) (min a1 t1, max a2 t2) rest else refFold (List.drop (j + 1) out) (a1, a2) (rest ++ [(t1, t2)])) (hrj : rest.length ≤ j)
    (q0 : wr.cell? ⟨g, 0, none⟩ = some (.int .i64 a1)) (q1 : wr.cell? ⟨g, 1, none⟩ = some (.int .i64 a2)) (q2 : wr.frozen? ⟨g, 0, none⟩ = false) (q3 : wr.frozen? ⟨g, 1, none⟩ = false)
    (hrest : wr.ownsRow (g + 1) 25 2 v6 rest.length (spCells rest)) (hb : Below g w1 wr) (hgl : g < wr.heap.size)
    (hown1 : w2.ownsRow (g + 1) 25 2 v6' (rest.length + 1) (spCells rest ++ [.int .i64 t1, .int .i64 t2])) (hg1 : World.grownBy ((wr.alloc o).alloc o') w2 v6.ownBlock) :
    RIRel out F g w1 v6' (.int .i64 (↑j + 1)) w2 := by
  rw [if_neg hno] at Hst
  have hrow : ∀ b, v6.ownBlock = some b → g + 1 ≤ b := fun b hb => (hrest.lt b hb).1
  have hbg : Below (g + 1) wr w2 := (((Below.refl _ _).alloc (by omega) _).alloc (by simp; omega) _).grown hg1 (by simp; omega) hrow
  refine ⟨j + 1, (a1, a2), rest ++ [(t1, t2)], hjl, by go_num, Hst.symm, by simp; omega, (hbg.cell (p := ⟨g, 0, none⟩) (by simp)).trans q0, (hbg.cell (p := ⟨g, 1, none⟩) (by simp)).trans q1, (hbg.frozen (p := ⟨g, 0, none⟩) (by simp)).trans q2, (hbg.frozen (p := ⟨g, 1, none⟩) (by simp)).trans q3, ?_, hb.trans (hbg.mono (by omega)), by have := hbg.size; omega, by simp⟩
  rw [List.length_append, spCells_snoc]
  exact hown1
theorem ahead_lt (p : Int) (l : List Sp) (i : Nat) (h : i < ahead_ p l) : ∃ hi : i < l.length, l[i].1 < p := by
  induction l generalizing i with
  | nil => simp [ahead_] at h
  | cons t l ih =>
    rw [ahead_] at h
    split at h
    · cases i with
      | zero => exact ⟨by simp, by assumption⟩
      | succ i =>
        obtain ⟨h1, h2⟩ := ih i (by omega)
        exact ⟨by simp; omega, by simpa using h2⟩
    · omega
theorem ahead_at (p : Int) (l : List Sp) (h : ahead_ p l < l.length) : ¬ l[ahead_ p l].1 < p := by
  induction l with
  | nil => simp at h
  | cons t l ih =>
    by_cases ht : t.1 < p
    · have e : ahead_ p (t :: l) = ahead_ p l + 1 := by rw [ahead_, if_pos ht]
      simp only [e] at h ⊢
      simpa using ih (by simpa using h)
    · have e : ahead_ p (t :: l) = 0 := by rw [ahead_, if_neg ht]
      simp only [e]
      simpa using ht
theorem ahead_at' (p : Int) (l : List Sp) (i : Nat) (hi : i < l.length) (h : i = ahead_ p l) : ¬ l[i].1 < p := by
  subst h; exact ahead_at p l hi
theorem refFold_length (o : List Sp) : ∀ (s : Sp) (rest : List Sp), (refFold o s rest).2.length ≤ o.length + rest.length := by
  induction o with
  | nil => intro s rest; simp [refFold]
  | cons t o ih =>
    intro s rest
    rw [refFold]
    split
    · have := ih (min s.1 t.1, max s.2 t.2) rest; simp; omega
    · have := ih s (rest ++ [t]); simp at this ⊢; omega
theorem refStep_length (out : List Sp) (s : Sp) : (refStep out s).length ≤ out.length + 1 := by
  have h := refFold_length out s []
  have h2 := ahead_le (refFold out s []).1.1 (refFold out s []).2
  unfold refStep
  simp only [List.length_append, List.length_take, List.length_drop, List.length_cons, List.length_nil] at *
  omega
theorem refAll_take (l : List Sp) (k : Nat) (hk : k < l.length) : refAll (l.take (k + 1)) = if l[k].1 < l[k].2 then refStep (refAll (l.take k)) l[k] else refAll (l.take k) := by
  rw [List.take_succ_eq_append_getElem hk]; unfold refAll; rw [List.foldl_append]; rfl
theorem refAll_length (l : List Sp) (k : Nat) : (refAll (l.take k)).length ≤ k := by
  induction k with
  | zero => simp [refAll]
  | succ k ih =>
    rcases Nat.lt_or_ge k l.length with h | h
    · rw [refAll_take l k h]
      split
      · have := refStep_length (refAll (l.take k)) l[k]; omega
      · omega
    · rw [List.take_of_length_le (by omega)] at ih ⊢
      omega
/-- The merged list is no longer than what was merged. -/
theorem canon_len (M l : List Sp) (hc : Canon M) (h : ∀ i, Cov i M ↔ Cov i l) : M.length ≤ l.length := by
  obtain ⟨r1, r2⟩ := refAll_ok l
  have e : M = refAll l := Canon.unique _ _ hc r1 fun i => (h i).trans (r2 i).symm
  have := refAll_length l l.length
  rw [List.take_length] at this
  rw [e]; exact this
end Go.Proofs.Ytlifkfihpmkffaa
