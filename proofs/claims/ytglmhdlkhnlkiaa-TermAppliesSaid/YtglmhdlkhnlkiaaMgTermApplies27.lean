/- Texts of one proof, one behind the other. -/
import Derived.Test.YtglmhdlkhnlkiaaMgTermApplies26
import Derived.Test.YtglmhdlkhnlkiaaMgTermApplies1
import Derived.Deep.RegionWith
import Derived.Test.YtglmhdlkhnlkiaaMgTermApplies6
import Derived.Test.YtglmhdlkhnlkiaaMgTermApplies11
import Derived.Test.YtglmhdlkhnlkiaaMgTermApplies13
import Derived.Test.YtglmhdlkhnlkiaaMgTermApplies16
/- The contracts of lex.number and token. -/
namespace Go.Proofs.Ytglmhdlkhnlkiaa
open Go.RowKit

/-- The number's answer, by what the tests say. -/
def numR (bad : Bool) (k n : Nat) : Int × Nat × Int := if bad = true then (0, 0, 3) else if 9 < n - k then (0, 0, 2) else (2, n, 0)
theorem numberT_eq (l : List Int) (k n : Nat) (hn : n = endAt digitB l k) : numberT l k = numR ((at_ l k == 48 && decide (k + 1 < n)) || (decide (n < l.length) && (smallB (at_ l n) || at_ l n == 95))) k n := by
  subst hn; rfl

/-- What a call owes that tells the token at a place. -/
def TripPost (r : Int × Nat × Int) (w : World) (e : Ending) (w' : World) : Prop := e = .returned (trip r) ∧ w = w'
theorem num_post {bad : Bool} {k n : Nat} {w : World} {a b c : Int} (h : (bad = true ∧ a = 0 ∧ b = 0 ∧ c = 3) ∨ (bad = false ∧ 9 < n - k ∧ a = 0 ∧ b = 0 ∧ c = 2) ∨ (bad = false ∧ n - k ≤ 9 ∧ a = 2 ∧ b = n ∧ c = 0)) :
    TripPost (numR bad k n) w (.returned (.tuple #[.int .i64 a, .int .i64 b, .int .i64 c])) w := by
  unfold TripPost numR trip
  refine ⟨?_, rfl⟩
  rcases h with ⟨rfl, rfl, rfl, rfl⟩ | ⟨rfl, h, rfl, rfl, rfl⟩ | ⟨rfl, h, rfl, rfl, rfl⟩
  · rfl
  · rw [if_neg (by simp), if_pos h]; rfl
  · rw [if_neg (by simp), if_neg (by omega)]

end Go.Proofs.Ytglmhdlkhnlkiaa
/- The contract of lex.Words: it returns the tokens that the plain function tells, in memory of its own, or the first error, and changes nothing that was there. -/
namespace Go.Proofs.Ytglmhdlkhnlkiaa
open Go.RowKit

/-- A token's cells. -/
def tokCells (s : ByteArray) (t : Int × Nat × Nat) : List Value := [.int .i64 t.1, .string (s.extract t.2.1 t.2.2), .int .i64 t.2.1, .int .i64 t.2.2]
def toksCells (s : ByteArray) (ts : List (Int × Nat × Nat)) : List Value := ts.flatMap (tokCells s)
theorem tok_one (s : ByteArray) (t : Int × Nat × Nat) : ∀ u ∈ tokCells s t, u.oneCell' = true := by
  intro u hu
  simp [tokCells] at hu
  rcases hu with rfl | rfl | rfl | rfl <;> rfl
theorem toksCells_snoc (s : ByteArray) (ts : List (Int × Nat × Nat)) (t : Int × Nat × Nat) : toksCells s (ts ++ [t]) = toksCells s ts ++ tokCells s t := by
  simp [toksCells]
/-- What the call owns stays so where only what is behind changes. -/
theorem lown_below {w w' : World} {B base : Nat} {e : TypeId} {size : Nat} {v : Value} {n : Nat} {xs : List Value} (h : w.ownsRow base e size v n xs) (hb : Below B w w') (hB : w.heap.size ≤ B) : w'.ownsRow base e size v n xs := by
  obtain ⟨h1, h2⟩ := h
  refine ⟨h1, ?_⟩
  rcases h2 with h2 | ⟨g, cap, cur, hv, hg, hh, r⟩
  · exact Or.inl h2
  · refine Or.inr ⟨g, cap, cur, hv, hg, ?_, r⟩
    rw [hb.block g ?_]
    · exact hh
    · have := (Array.getElem?_eq_some_iff.1 hh).1
      omega
end Go.Proofs.Ytglmhdlkhnlkiaa
/- The contracts of the small functions of the document's answer for package lex: Letter, Digit, Inner, Keyword. -/
namespace Go.Proofs.Ytglmhdlkhnlkiaa
open Go.RowKit

set_option maxHeartbeats 400000 in
theorem rLetter_any (c : Int) (w : World) :
    Calls Try.prog 60 #[.int .u8 c] w fun e w' => e = .returned (.bool (smallB c)) ∧ w = w' := by
  go_enter Try.func60, Try.ntmps60
  go_wp2
  all_goals
    go_ret
    exact ⟨lret_bool (by simp [smallB, *] <;> omega), rfl⟩
set_option maxHeartbeats 400000 in
theorem rDigit_any (c : Int) (w : World) :
    Calls Try.prog 68 #[.int .u8 c] w fun e w' => e = .returned (.bool (digitB c)) ∧ w = w' := by
  go_enter Try.func68, Try.ntmps68
  go_wp2
  all_goals
    go_ret
    exact ⟨lret_bool (by simp [digitB, *] <;> omega), rfl⟩
set_option maxHeartbeats 400000 in
theorem rInner_any (c : Int) (w : World) :
    Calls Try.prog 59 #[.int .u8 c] w fun e w' => e = .returned (.bool (innerB c)) ∧ w = w' := by
  by_cases h1 : smallB c = true <;> by_cases h2 : digitB c = true
  all_goals
    go_enter Try.func59, Try.ntmps59
    go_wp2_with (first | (go_at_call 60; refine (rLetter_any _ _).mono ?_; rintro e w' ⟨rfl, rfl⟩) | (go_at_call 68; refine (rDigit_any _ _).mono ?_; rintro e w' ⟨rfl, rfl⟩))
  all_goals
    go_ret
    exact ⟨lret_bool (by simp [innerB, *]), rfl⟩
theorem kwS_eq' (s : ByteArray) : kwB (bs s) = ([102, 117, 110] == s.toList || [108, 101, 116] == s.toList || [114, 101, 99] == s.toList || [105, 110] == s.toList || [105, 102] == s.toList || [116, 104, 101, 110] == s.toList || [101, 108, 115, 101] == s.toList || [116, 114, 117, 101] == s.toList || [102, 97, 108, 115, 101] == s.toList || [105, 110, 116] == s.toList || [98, 111, 111, 108] == s.toList) := by
  rw [← kwS_eq]
  unfold kwS
  have hc : ∀ a b : List UInt8, (a == b) = (b == a) := fun a b => by rw [Bool.eq_iff_iff, beq_iff_eq, beq_iff_eq]; exact eq_comm
  simp only [hc s.toList]
set_option maxHeartbeats 1000000 in
theorem rKeyword_any (s : ByteArray) (w : World) :
    Calls Try.prog 61 #[.string s] w fun e w' => e = .returned (.bool (kwB (bs s))) ∧ Below w.heap.size w w' := by
  go_enter Try.func61, Try.ntmps61
  go_wp2_with fail
  refine wp_loop_rounds 12 ?_
  iterate 11
    rw [rounds_succ]
    go_wp2_with fail
    · go_ret
      exact ⟨lret_bool (by rw [kwS_eq']; simp [*]), (Below.refl _ _).alloc (Nat.le_refl _) _⟩
  rw [rounds_succ]
  go_wp2_with fail
  go_ret
  exact ⟨lret_bool (by rw [kwS_eq']; simp [*]), (Below.refl _ _).alloc (Nat.le_refl _) _⟩
end Go.Proofs.Ytglmhdlkhnlkiaa
/- The contracts of lex.Name, and of the answer's Name. -/
namespace Go.Proofs.Ytglmhdlkhnlkiaa
open Go.RowKit

/-- Whether a text is a name that may be. -/
def nameB (l : List Int) : Bool := !l.isEmpty && (smallB (at_ l 0) && (endAt innerB l 0 == l.length && (decide (l.length ≤ 20) && !kwB l)))
theorem name_empty (s : ByteArray) (h : s.size = 0) : nameB (bs s) = false := by
  have : bs s = [] := List.eq_nil_of_length_eq_zero (by rw [bs_length]; exact h)
  rw [this]; rfl
theorem name_full (s : ByteArray) (h : 0 < s.size) : nameB (bs s) = (smallB (s[0].toNat : Int) && (endAt innerB (bs s) 0 == s.size && (decide (s.size ≤ 20) && !kwB (bs s)))) := by
  unfold nameB
  rw [bs_length, at_bs s 0 h]
  have : (bs s).isEmpty = false := by
    have := bs_length s
    rcases hb : bs s with _ | ⟨a, l⟩
    · rw [hb] at this; simp at this; omega
    · rfl
  rw [this]; rfl
theorem toList_nil (s : ByteArray) (h : s.size = 0) : s.toList = [] := by
  rw [toList_data]
  exact List.eq_nil_of_length_eq_zero (by rw [Array.length_toList]; exact h)
theorem toList_ne (s : ByteArray) (h : 0 < s.size) : s.toList.isEmpty = false := by
  rw [toList_data]
  rcases hb : s.data.toList with _ | ⟨a, l⟩
  · have : s.data.toList.length = 0 := by rw [hb]; rfl
    rw [Array.length_toList] at this
    have h2 : s.data.size = s.size := rfl
    omega
  · rfl

set_option maxHeartbeats 1000000 in
theorem lname_any (s : ByteArray) (w : World) (hs : s.size ≤ maxLen) :
    Calls Try.prog 56 #[.string s] w fun e w' => e = .returned (.bool (nameB (bs s))) ∧ w = w' := by
  by_cases h0 : s.size = 0
  · rw [name_empty s h0]
    have e1 := toList_nil s h0
    clear h0
    go_enter Try.func56, Try.ntmps56
    go_wp2_with fail
    go_ret
    exact ⟨rfl, rfl⟩
  · have h1 : 0 < s.size := by omega
    rw [name_full s h1]
    have e1 := toList_ne s h1
    have hle := endAt_le innerB (bs s) 0 (Nat.zero_le _)
    rw [bs_length] at hle
    obtain ⟨n, hn⟩ : ∃ n, n = endAt innerB (bs s) 0 := ⟨_, rfl⟩
    rw [← hn] at hle ⊢
    have Hn := Lib.hid hn
    clear hn h0
    obtain ⟨R, hR⟩ : ∃ R, R = (smallB (s[0].toNat : Int) && (n == s.size && (decide (s.size ≤ 20) && !kwB (bs s)))) := ⟨_, rfl⟩
    rw [← hR]
    have HR := Lib.hid hR
    clear hR
    have hsl := hs
    unfold maxLen at hs
    by_cases h2 : smallB (s[0].toNat : Int) = true
    · by_cases h3 : n = s.size
      · have h3' : ((n : Int) == (s.size : Int)) = true := by simp; omega
        have H3 := Lib.hid h3
        clear h3
        by_cases h4 : s.size ≤ 20
        · have h4' : (s.size : Int) ≤ 20 := by omega
          by_cases h5 : kwB (bs s) = true
          all_goals
            go_enter Try.func56, Try.ntmps56
            go_wp2_with (go_at_call 63; refine (isSmall_any _ _).mono ?_; rintro e w' ⟨rfl, rfl⟩)
            refine (letters_any s 0 _ hsl (Nat.zero_le _)).mono ?_
            rintro e w' ⟨rfl, rfl⟩
            rw [← Hn.out]
            go_wp2_with (go_at_call 65; refine (keyword_any _ _).mono ?_; rintro e w' ⟨rfl, rfl⟩)
            go_ret
            exact ⟨lret_bool (by rw [HR.out]; simp [h2, H3.out, h4, h5]), rfl⟩
        · have h4' : ¬ (s.size : Int) ≤ 20 := by omega
          go_enter Try.func56, Try.ntmps56
          go_wp2_with (go_at_call 63; refine (isSmall_any _ _).mono ?_; rintro e w' ⟨rfl, rfl⟩)
          refine (letters_any s 0 _ hsl (Nat.zero_le _)).mono ?_
          rintro e w' ⟨rfl, rfl⟩
          rw [← Hn.out]
          go_wp2_with (go_at_call 65; refine (keyword_any _ _).mono ?_; rintro e w' ⟨rfl, rfl⟩)
          go_ret
          exact ⟨lret_bool (by rw [HR.out]; simp [h2, H3.out, h4]), rfl⟩
      · have h3' : ((n : Int) == (s.size : Int)) = false := by simp; omega
        go_enter Try.func56, Try.ntmps56
        go_wp2_with (go_at_call 63; refine (isSmall_any _ _).mono ?_; rintro e w' ⟨rfl, rfl⟩)
        refine (letters_any s 0 _ hsl (Nat.zero_le _)).mono ?_
        rintro e w' ⟨rfl, rfl⟩
        rw [← Hn.out]
        go_wp2_with (go_at_call 65; refine (keyword_any _ _).mono ?_; rintro e w' ⟨rfl, rfl⟩)
        go_ret
        exact ⟨lret_bool (by rw [HR.out]; simp [h3]), rfl⟩
    · have h2' : smallB (s[0].toNat : Int) = false := by simpa using h2
      clear h2
      go_enter Try.func56, Try.ntmps56
      go_wp2_with (go_at_call 63; refine (isSmall_any _ _).mono ?_; rintro e w' ⟨rfl, rfl⟩)
      go_ret
      exact ⟨lret_bool (by rw [HR.out]; simp [h2']), rfl⟩

theorem nameB_inner (l : List Int) (k : Nat) (h : k < l.length) (he : endAt innerB l 0 = endAt innerB l k) (hi : innerB l[k] = false) : nameB l = false := by
  rw [endAt_stop h hi] at he
  unfold nameB
  rw [he]
  have : (k == l.length) = false := by simp; omega
  rw [this]; simp
theorem nameB_first (l : List Int) (h : 0 < l.length) (hi : smallB l[0] = false) : nameB l = false := by
  unfold nameB
  rw [at_get _ _ h, hi]; simp
theorem nameB_end (l : List Int) (he : endAt innerB l 0 = l.length) (hs : 0 < l.length → smallB (at_ l 0) = true) : nameB l = (decide (0 < l.length) && (decide (l.length ≤ 20) && !kwB l)) := by
  unfold nameB
  rw [he]
  rcases l with _ | ⟨a, l⟩
  · rfl
  · rw [hs (by simp)]; simp

set_option maxHeartbeats 1000000 in
theorem rName_any (s : ByteArray) (w : World) (hs : s.size ≤ maxLen) :
    Calls Try.prog 46 #[.string s] w fun e w' => e = .returned (.bool (nameB (bs s))) ∧ Below w.heap.size w w' := by
  unfold maxLen at hs
  go_enter Try.func46, Try.ntmps46
  go_wp2_with fail
  go_loop [3] (fun t => ∃ k : Nat, k ≤ s.size ∧ t = .int .i64 k ∧ endAt innerB (bs s) 0 = endAt innerB (bs s) k ∧ (0 < k → smallB (at_ (bs s) 0) = true)) (fun t => s.size - (intOf t).toNat)
  case atStart => exact ⟨0, Nat.zero_le _, rfl, rfl, fun h => absurd h (by omega)⟩
  case round =>
    obtain ⟨k, hk, rfl, he, hsm⟩ := hrel
    have He := Lib.hid he
    have Hsm := Lib.hid hsm
    clear he hsm
    by_cases hlt : k < s.size
    · have hg := bs_get s k hlt
      have hll : k < (bs s).length := by rw [bs_length]; exact hlt
      by_cases hin : innerB (s[k].toNat : Int) = true
      · have HE : Hid (endAt innerB (bs s) k = endAt innerB (bs s) (k + 1)) := endAt_go hll (by rw [hg]; exact hin)
        rcases k with _ | j
        · clear He
          by_cases hs0 : smallB (s[0].toNat : Int) = true
          · have H0 : Hid (smallB (at_ (bs s) 0) = true) := by
              show smallB (at_ (bs s) 0) = true
              rw [at_bs s 0 hlt]; exact hs0
            clear hg hll
            go_wp2_with (first | (go_at_call 59; refine (rInner_any _ _).mono ?_; rintro e w' ⟨rfl, rfl⟩) | (go_at_call 60; refine (rLetter_any _ _).mono ?_; rintro e w' ⟨rfl, rfl⟩))
            go_round
            case rel => exact ⟨1, by omega, by go_num, HE.out, fun _ => H0.out⟩
            case measure => simp [intOf]; omega
          · have hs0' : smallB (s[0].toNat : Int) = false := by simpa using hs0
            have HN : Hid (nameB (bs s) = false) := nameB_first _ hll (by rw [hg]; exact hs0')
            clear hg hll hs0
            go_wp2_with (first | (go_at_call 59; refine (rInner_any _ _).mono ?_; rintro e w' ⟨rfl, rfl⟩) | (go_at_call 60; refine (rLetter_any _ _).mono ?_; rintro e w' ⟨rfl, rfl⟩))
            go_ret
            exact ⟨lret_bool HN.out.symm, Below.refl _ _⟩
        · have hj0 : ((j : Int) + 1 == 0) = false := by simp; omega
          clear hg hll
          go_wp2_with (first | (go_at_call 59; refine (rInner_any _ _).mono ?_; rintro e w' ⟨rfl, rfl⟩) | (go_at_call 60; refine (rLetter_any _ _).mono ?_; rintro e w' ⟨rfl, rfl⟩))
          go_round
          case rel => exact ⟨j + 1 + 1, by omega, by go_num, He.out.trans HE.out, fun _ => Hsm.out (by omega)⟩
          case measure => simp [intOf]; omega
      · have hin' : innerB (s[k].toNat : Int) = false := by simpa using hin
        have HN : Hid (nameB (bs s) = false) := nameB_inner _ k hll He.out (by rw [hg]; exact hin')
        clear hg hll hin
        go_wp2_with (first | (go_at_call 59; refine (rInner_any _ _).mono ?_; rintro e w' ⟨rfl, rfl⟩) | (go_at_call 60; refine (rLetter_any _ _).mono ?_; rintro e w' ⟨rfl, rfl⟩))
        go_ret
        exact ⟨lret_bool HN.out.symm, Below.refl _ _⟩
    · have hke : k = s.size := by omega
      subst hke
      have hend : endAt innerB (bs s) 0 = (bs s).length := by rw [He.out, bs_length, endAt_end (by rw [bs_length]; omega)]
      have hN := nameB_end (bs s) hend (fun h => Hsm.out (by rw [bs_length] at h; exact h))
      rw [bs_length] at hN
      have HN := Lib.hid hN
      clear hend hN
      by_cases h1 : 0 < s.size
      · have h1' : (0 : Int) < (s.size : Int) := by omega
        by_cases h2 : s.size ≤ 20
        · have h2' : (s.size : Int) ≤ 20 := by omega
          go_wp2_with (go_at_call 61; refine (rKeyword_any _ _).mono ?_; rintro e w' ⟨rfl, hb⟩)
          go_ret
          exact ⟨lret_bool (by rw [HN.out]; simp [h1, h2]), hb⟩
        · have h2' : ¬ (s.size : Int) ≤ 20 := by omega
          go_wp2_with (go_at_call 61; refine (rKeyword_any _ _).mono ?_; rintro e w' ⟨rfl, hb⟩)
          go_ret
          exact ⟨lret_bool (by rw [HN.out]; simp [h2]), Below.refl _ _⟩
      · have h1' : ¬ (0 : Int) < (s.size : Int) := by omega
        go_wp2_with (go_at_call 61; refine (rKeyword_any _ _).mono ?_; rintro e w' ⟨rfl, hb⟩)
        go_ret
        exact ⟨lret_bool (by rw [HN.out]; simp [h1]), Below.refl _ _⟩
end Go.Proofs.Ytglmhdlkhnlkiaa
/- A variable; a type without parts; two types at an address (what of AwA speaks of no text). -/
namespace Go.Proofs.Ytglmhdlkhnlkiaa
open Go.RowKit Go.Shelf
/-- Two types at an address. -/
theorem two_cells {X : World} (g cp : Nat) (k0 n0 k1 n1 : Int) (u0 u1 : Sl) (f0 f1 : Fo) (hg : g < X.heap.size) (hcp : 2 ≤ cp) (hcm : cp ≤ maxLen) (c0 : X.cell? ⟨g, 0, none⟩ = some (.int .i64 k0)) (c1 : X.cell? ⟨g, 1, none⟩ = some (.int .i64 n0)) (c2 : X.cell? ⟨g, 2, none⟩ = some (slv u0)) (c3 : X.cell? ⟨g, 3, none⟩ = some (.int .i64 k1)) (c4 : X.cell? ⟨g, 4, none⟩ = some (.int .i64 n1)) (c5 : X.cell? ⟨g, 5, none⟩ = some (slv u1)) (h0 : TyV X.heap.size X f0 (slv u0)) (h1 : TyV X.heap.size X f1 (slv u1)) : TyV X.heap.size X (.cons k0 n0 u0 f0 (.cons k1 n1 u1 f1 .nil)) (.slice (some ⟨g, 0, none⟩) 2 cp) :=
  tyV_cons.2 ⟨g, 0, cp, rfl, hcp, hcm, hg, tyC_cons.2 ⟨c0, c1, c2, h0, tyC_cons.2 ⟨c3, c4, c5, h1, tyC_nil⟩⟩⟩
theorem no_parts (B : Nat) (w : World) : TyV B w .nil (slv (none, 0, 0)) := tyV_nil.2 ⟨none, 0, rfl⟩
end Go.Proofs.Ytglmhdlkhnlkiaa
