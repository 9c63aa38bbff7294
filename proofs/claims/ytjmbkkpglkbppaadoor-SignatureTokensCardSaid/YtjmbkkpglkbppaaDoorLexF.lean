/- Tokens as values; a slice of them, read. Nothing here speaks of the program. -/
import Derived.Test.YtjmbkkpglkbppaaDoorLexE
import Derived.Deep.QuietTactic
import Derived.BigQuiet
namespace Go.Proofs.YtjmbkkpglkbppaaDoor
open Go.RowKit
/-- A token as values: kind, text, span. -/
abbrev TV := Int × ByteArray × Int × Int
def tvCells (t : TV) : List Value := [.int .i64 t.1, .string t.2.1, .int .i64 t.2.2.1, .int .i64 t.2.2.2]
def tvsCells (ts : List TV) : List Value := ts.flatMap tvCells
def RdT (w : World) (v : Value) (ts : List TV) : Prop := Rd w 4 v ts.length (tvsCells ts)
theorem flat4 (ts : List TV) (i j : Nat) (hi : i < ts.length) (hj : j < 4) : (tvsCells ts)[i * 4 + j]? = (tvCells ts[i])[j]? := by
  induction ts generalizing i with
  | nil => simp at hi
  | cons t l ih =>
    unfold tvsCells at *
    rw [List.flatMap_cons]
    cases i with
    | zero => rw [List.getElem?_append_left (by simp [tvCells]; omega)]; simp
    | succ i =>
      rw [List.getElem?_append_right (by simp [tvCells]; omega)]
      have : (i + 1) * 4 + j - (tvCells t).length = i * 4 + j := by simp [tvCells]; omega
      rw [this, ih i (by simp at hi; omega)]
      simp
theorem RdT.form {w : World} {v : Value} {ts : List TV} (h : RdT w v ts) (hn : 0 < ts.length) : ∃ b off cap, v = .slice (some ⟨b, off, none⟩) ts.length cap ∧ ts.length ≤ cap ∧ cap ≤ maxLen ∧ b < w.heap.size ∧
    ∀ i (hi : i < ts.length), w.cell? ⟨b, off + i * 4, none⟩ = some (.int .i64 ts[i].1) ∧ w.cell? ⟨b, off + i * 4 + 1, none⟩ = some (.string ts[i].2.1) ∧ w.cell? ⟨b, off + i * 4 + 2, none⟩ = some (.int .i64 ts[i].2.2.1) ∧ w.cell? ⟨b, off + i * 4 + 3, none⟩ = some (.int .i64 ts[i].2.2.2) := by
  rcases h.2 with ⟨h0, _⟩ | ⟨b, off, cap, rfl, hnc, hcm, hlt, hc⟩
  · omega
  · refine ⟨b, off, cap, rfl, hnc, hcm, hlt, fun i hi => ⟨?_, ?_, ?_, ?_⟩⟩
    · exact hc (i * 4 + 0) _ (flat4 ts i 0 hi (by omega))
    · exact hc (i * 4 + 1) _ (flat4 ts i 1 hi (by omega))
    · exact hc (i * 4 + 2) _ (flat4 ts i 2 hi (by omega))
    · exact hc (i * 4 + 3) _ (flat4 ts i 3 hi (by omega))
end Go.Proofs.YtjmbkkpglkbppaaDoor
