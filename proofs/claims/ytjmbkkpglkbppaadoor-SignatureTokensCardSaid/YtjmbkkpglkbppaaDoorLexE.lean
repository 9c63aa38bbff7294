/- The contract of lex.Words: it returns the tokens that the plain function tells, in memory of its own, or the first error, and changes nothing that was there. -/
import Derived.Test.YtjmbkkpglkbppaaDoorLexD
import Derived.Test.YtjmbkkpglkbppaaDoorMem
namespace Go.Proofs.YtjmbkkpglkbppaaDoor
open Go.RowKit

/-- A token's cells. -/
def tokCells (s : ByteArray) (t : Int × Nat × Nat) : List Value := [.int .i64 t.1, .string (s.extract t.2.1 t.2.2), .int .i64 t.2.1, .int .i64 t.2.2]
def toksCells (s : ByteArray) (ts : List (Int × Nat × Nat)) : List Value := ts.flatMap (tokCells s)
/-- What Words owes. -/
def WordsPost (s : ByteArray) (w : World) (e : Ending) (w' : World) : Prop :=
  Below w.heap.size w w' ∧ match wordsE (bs s) with
    | .error (p, er) => e = .returned (.tuple #[.slice none 0 0, .int .i64 p, .int .i64 er])
    | .ok ts => ∃ v, e = .returned (.tuple #[v, .int .i64 0, .int .i64 0]) ∧ w'.ownsRow w.heap.size 45 4 v (ts.length + 1) (toksCells s (ts ++ [(0, s.size, s.size)]))
theorem tok_one (s : ByteArray) (t : Int × Nat × Nat) : ∀ u ∈ tokCells s t, u.oneCell' = true := by
  intro u hu
  simp [tokCells] at hu
  rcases hu with rfl | rfl | rfl | rfl <;> rfl
theorem toksCells_snoc (s : ByteArray) (ts : List (Int × Nat × Nat)) (t : Int × Nat × Nat) : toksCells s (ts ++ [t]) = toksCells s ts ++ tokCells s t := by
  simp [toksCells]
/-- What the call owns stays so where only what is behind changes. -/
theorem lown_below {w w' : World} {B base : Nat} {e : TypeId} {size : Nat} {v : Value} {n : Nat} {xs : List Value} (h : w.ownsRow base e size v n xs) (hb : Below B w w') (hB : w.heap.size ≤ B) : w'.ownsRow base e size v n xs := by
  obtain ⟨h1, h2⟩ := h
  refine ⟨h1, ?_⟩
  rcases h2 with h2 | ⟨g, cap, cur, hv, hg, hh, r⟩
  · exact Or.inl h2
  · refine Or.inr ⟨g, cap, cur, hv, hg, ?_, r⟩
    rw [hb.block g ?_]
    · exact hh
    · have := (Array.getElem?_eq_some_iff.1 hh).1
      omega
theorem tokInfo : (Tryd.prog.info? 45).map (fun i => (i.zero, i.size, i.bytes)) = some (some (.agg #[.int .i64 0, .string ⟨#[]⟩, .int .i64 0, .int .i64 0]), 4, 40) := by kernel_rfl

set_option maxHeartbeats 1000000 in
set_option maxRecDepth 100000 in
theorem words_any (s : ByteArray) (w : World) (hs : s.size ≤ 1000000) :
    Calls Tryd.prog 15 #[.string s] w (WordsPost s w) := by
  have hsl : s.size ≤ maxLen := by unfold maxLen; omega
  obtain ⟨i0, hi, hz0, hz1, hz2⟩ := info_parts tokInfo
  go_enter Tryd.func15, Tryd.ntmps15
  go_wp2_with fail
  refine (blanks_any s 0 _ hsl (by omega)).mono ?_
  rintro e w1 ⟨rfl, hb1⟩
  go_wp2_with fail
  go_loopw [5, 6] (fun v t wr => ∃ (k f : Nat) (acc : List (Int × Nat × Nat)), k ≤ s.size ∧ acc.length ≤ k ∧ s.size < f + k ∧ t = .int .i64 k ∧ wr.ownsRow w.heap.size 45 4 v acc.length (toksCells s acc) ∧ Below w.heap.size w wr ∧ wordsE (bs s) = wordsA (bs s) f k acc) (fun _ t _ => s.size - (intOf t).toNat)
  case atStart =>
    have h1 := blankEnd_le false (bs s) 0 (Nat.zero_le _)
    rw [bs_length] at h1
    exact ⟨_, s.size + 1, [], h1, Nat.zero_le _, by omega, rfl, World.ownsRow_nil _ _ _ _, hb1, by rw [wordsE, bs_length]⟩
  case round =>
    obtain ⟨k, f, acc, hk, hacc, hf, rfl, hown, hbw, he⟩ := hrel
    have He := Lib.hid he
    clear he
    by_cases hlt : k < s.size
    · obtain ⟨kd, to, er, hT⟩ : ∃ kd to er, tokenT (bs s) k = (kd, to, er) := ⟨_, _, _, rfl⟩
      have hok := tokenT_ok (bs s) k (by rw [bs_length]; exact hlt)
      rw [hT, bs_length] at hok
      have HT := Lib.hid hT
      clear hT
      by_cases h0 : er = 0
      · obtain ⟨hok1, hok2⟩ := hok h0
        subst h0
        clear hok
        have hok1 : k < to := hok1
        have hok2 : to ≤ s.size := hok2
        go_wp2_with fail
        refine (token_any s k _ hsl hlt).mono ?_
        rintro e w' ⟨rfl, rfl⟩
        rw [HT.out]
        unfold trip
        have hnx := hbw.size
        go_wp2_with (at_builtin; refine wpList_append_own _ rfl (.tmp 28) (.tmp 38) 22 rfl w.heap.size 45 i0 _ 4 40 Tryd.underlying22 hi hz0 hz1 hz2 rfl (by decide) _ acc.length (toksCells s acc) rfl (hown.alloc _) ⟨wr.heap.size, 0, none⟩ 1 1 (tokCells s (kd, k, to)) rfl rfl (cells_new wr _ _) (tok_one s _) (by unfold maxLen; omega) (by omega) (by simp; omega) ?_; intro v1 w1 hown1 hg1 _)
        have hb2 : Below w.heap.size w w1 := (hbw.alloc hnx _).grown hg1 (by simp; omega) (fun b hb => (hown.lt b hb).1)
        rw [← toksCells_snoc] at hown1
        clear hown hg1 hbw
        go_wp2_with fail
        refine (blanks_any s to _ hsl hok2).mono ?_
        rintro e w2 ⟨rfl, hb3⟩
        have hle := blankEnd_le false (bs s) to (by rw [bs_length]; exact hok2)
        have hge := blankEnd_ge false (bs s) to
        rw [bs_length] at hle
        go_wp2_with fail
        go_roundw
        case rel =>
          refine ⟨blankEnd false (bs s) to, f - 1, acc ++ [(kd, k, to)], hle, by simp; omega, by omega, rfl, ?_, hb2.trans (hb3.mono hb2.size), ?_⟩
          · simp only [List.length_append, List.length_cons, List.length_nil, Nat.zero_add]
            exact lown_below hown1 hb3 (Nat.le_refl _)
          · rw [He.out]; exact wordsA_go (by omega) (by rw [bs_length]; exact hlt) HT.out
        case measure => simp [intOf]; omega
      · clear hok
        have h0' : (er != 0) = true := by simpa using h0
        have HE : Hid (wordsE (bs s) = .error (k, er)) := He.out.trans (wordsA_bad (by omega) (by rw [bs_length]; exact hlt) HT.out h0)
        clear h0
        go_wp2_with fail
        refine (token_any s k _ hsl hlt).mono ?_
        rintro e w' ⟨rfl, rfl⟩
        rw [HT.out]
        unfold trip
        go_wp2_with fail
        go_ret3
        refine ⟨hbw, ?_⟩
        rw [HE.out]
        rfl
    · have HE : Hid (wordsE (bs s) = .ok acc) := He.out.trans (wordsA_end (by rw [bs_length]; omega))
      have hnx := hbw.size
      have hext : (⟨#[]⟩ : ByteArray) = s.extract s.size s.size := by
        apply bs_inj
        rw [bs_extract]
        simp [bs, sub]
      have Hx := Lib.hid hext
      clear hext
      have hone : ∀ u ∈ [Value.int .i64 0, .string ⟨#[]⟩, .int .i64 s.size, .int .i64 s.size], u.oneCell' = true := by
        intro u hu
        simp at hu
        rcases hu with rfl | rfl | rfl <;> rfl
      go_wp2_with (at_builtin; refine wpList_append_own _ rfl (.tmp 49) (.tmp 51) 22 rfl w.heap.size 45 i0 _ 4 40 Tryd.underlying22 hi hz0 hz1 hz2 rfl (by decide) _ acc.length (toksCells s acc) rfl ((hown.alloc _).alloc _) ⟨wr.heap.size + 1, 0, none⟩ 1 1 [.int .i64 0, .string ⟨#[]⟩, .int .i64 s.size, .int .i64 s.size] rfl rfl (cells_new' (wr.alloc _) _ (by simp) _ _) hone (by unfold maxLen; omega) (by omega) (by simp; omega) ?_; intro v1 w1 hown1 hg1 _)
      have hb2 : Below w.heap.size w w1 := ((hbw.alloc hnx _).alloc (by simp; omega) _).grown hg1 (by simp; omega) (fun b hb => (hown.lt b hb).1)
      go_wp2_with fail
      go_ret3
      refine ⟨hb2, ?_⟩
      rw [HE.out]
      refine ⟨v1, rfl, ?_⟩
      rw [toksCells_snoc]
      unfold tokCells
      rw [← Hx.out]
      exact hown1
end Go.Proofs.YtjmbkkpglkbppaaDoor
