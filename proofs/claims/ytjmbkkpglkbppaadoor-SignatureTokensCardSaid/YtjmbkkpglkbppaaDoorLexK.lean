/- Tokens by places, as values; how many there are at most. -/
import Derived.Test.YtjmbkkpglkbppaaDoorLexF
namespace Go.Proofs.YtjmbkkpglkbppaaDoor
open Go.RowKit

/-- A token by places, as values. -/
def tv (s : ByteArray) (t : Int × Nat × Nat) : TV := (t.1, s.extract t.2.1 t.2.2, t.2.1, t.2.2)
theorem toks_tvs (s : ByteArray) (ts : List (Int × Nat × Nat)) : toksCells s ts = tvsCells (ts.map (tv s)) := by
  unfold toksCells tvsCells
  rw [List.flatMap_map]
  rfl
theorem wordsA_length (l : List Int) : ∀ (f k : Nat) (acc ts : List (Int × Nat × Nat)), k ≤ l.length → acc.length ≤ k → wordsA l f k acc = .ok ts → ts.length ≤ l.length := by
  intro f
  induction f with
  | zero => intro k acc ts hk ha h; rw [wordsA] at h; injection h with h; subst h; omega
  | succ f ih =>
    intro k acc ts hk ha h
    by_cases hlt : k < l.length
    · by_cases he : (tokenT l k).2.2 = 0
      · have hok := tokenT_ok l k hlt he
        have h1 := blankEnd_ge false l (tokenT l k).2.1
        have h2 := blankEnd_le false l (tokenT l k).2.1 hok.2
        rw [wordsA, if_pos hlt, if_pos he] at h
        exact ih _ _ _ h2 (by simp; omega) h
      · rw [wordsA, if_pos hlt, if_neg he] at h; cases h
    · rw [wordsA, if_neg hlt] at h; injection h with h; subst h; omega
theorem wordsE_length (l : List Int) (ts : List (Int × Nat × Nat)) (h : wordsE l = .ok ts) : ts.length ≤ l.length :=
  wordsA_length l _ _ _ _ (blankEnd_le false l 0 (Nat.zero_le _)) (Nat.zero_le _) h

end Go.Proofs.YtjmbkkpglkbppaaDoor
