/- Spans in memory: a slice that reads as a list of spans, a row that the call owns. Nothing here speaks of the program. -/
import Derived.Test.YtlifkfihpmkffaaSpP
import Derived.Test.YtlifkfihpmkffaaMem
import Derived.WalkSpells
import Derived.WalkLawsBesides
import Derived.Lib.Hide
namespace Go.Proofs.Ytlifkfihpmkffaa
open Go.RowKit

def enc2 (x : Sp) : List Value := [.int .i64 x.1, .int .i64 x.2]
def spCells (l : List Sp) : List Value := l.flatMap enc2
def RdS (w : World) (v : Value) (l : List Sp) : Prop := Rd w 2 v l.length (spCells l)
theorem spCells_length (l : List Sp) : (spCells l).length = l.length * 2 := by
  induction l with
  | nil => rfl
  | cons s l ih =>
    show (enc2 s ++ spCells l).length = _
    rw [List.length_append, ih]
    simp [enc2]
    omega
theorem spCells_snoc (l : List Sp) (s : Sp) : spCells (l ++ [s]) = spCells l ++ enc2 s := by simp [spCells]
theorem spCells_one (l : List Sp) : ∀ u ∈ spCells l, u.oneCell' = true := by
  intro u hu
  obtain ⟨s, _, h⟩ := List.mem_flatMap.1 hu
  simp [enc2] at h
  rcases h with rfl | rfl <;> rfl
theorem flat2 (l : List Sp) (i j : Nat) (hi : i < l.length) (hj : j < 2) : (spCells l)[i * 2 + j]? = (enc2 l[i])[j]? := by
  induction l generalizing i with
  | nil => simp at hi
  | cons t l ih =>
    show (enc2 t ++ spCells l)[i * 2 + j]? = _
    cases i with
    | zero => rw [List.getElem?_append_left (by simp [enc2]; omega)]; simp
    | succ i =>
      rw [List.getElem?_append_right (by simp [enc2]; omega)]
      have : (i + 1) * 2 + j - (enc2 t).length = i * 2 + j := by simp [enc2]; omega
      rw [this, ih i (by simp at hi; omega)]
      simp
theorem RdS.slice {w : World} {v : Value} {l : List Sp} (h : RdS w v l) : ∃ A c, v = .slice A l.length c := by
  rcases h.2 with ⟨h0, A, c, rfl⟩ | ⟨b, off, cap, rfl, _⟩
  · exact ⟨A, c, by rw [h0]⟩
  · exact ⟨_, _, rfl⟩
theorem RdS.nil {w : World} {v : Value} (h : RdS w v []) : ∃ A c, v = .slice A 0 c := h.slice
theorem RdS.form {w : World} {v : Value} {l : List Sp} (h : RdS w v l) (hn : 0 < l.length) : ∃ b off cap, v = .slice (some ⟨b, off, none⟩) l.length cap ∧ l.length ≤ cap ∧ cap ≤ maxLen ∧ b < w.heap.size ∧
    ∀ i (hi : i < l.length), w.cell? ⟨b, off + i * 2, none⟩ = some (.int .i64 l[i].1) ∧ w.cell? ⟨b, off + i * 2 + 1, none⟩ = some (.int .i64 l[i].2) := by
  rcases h.2 with ⟨h0, _⟩ | ⟨b, off, cap, rfl, hnc, hcm, hlt, hc⟩
  · omega
  · refine ⟨b, off, cap, rfl, hnc, hcm, hlt, fun i hi => ⟨?_, ?_⟩⟩
    · exact hc (i * 2 + 0) _ (flat2 l i 0 hi (by omega))
    · exact hc (i * 2 + 1) _ (flat2 l i 1 hi (by omega))
theorem RdS.below {w w' : World} {v : Value} {l : List Sp} (h : RdS w v l) (hb : Below w.heap.size w w') : RdS w' v l := Rd.below h hb
theorem RdS.of_own {w : World} {base : Nat} {e : TypeId} {v : Value} {l : List Sp} (h : w.ownsRow base e 2 v l.length (spCells l)) : RdS w v l := Rd.of_own h
end Go.Proofs.Ytlifkfihpmkffaa
