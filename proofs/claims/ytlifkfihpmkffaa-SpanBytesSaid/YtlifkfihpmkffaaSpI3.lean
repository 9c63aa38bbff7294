/- The contract of the document's answer for the parts of a text. -/
import Derived.Test.YtlifkfihpmkffaaSpI2
import Derived.Deep.RegionHeld3
namespace Go.Proofs.Ytlifkfihpmkffaa
open Go.RowKit

/-- The runs that have ended ahead of i, and where the one that stands open began. -/
structure RunInv (l : List Sp) (i a : Nat) (R : List Sp) : Prop where
  canon : Canon R
  ends : ∀ r ∈ R, r.2 < a
  cov : ∀ j : Int, Cov j R ↔ 0 ≤ j ∧ j < a ∧ Cov j l
  opened : ∀ j : Int, a ≤ j → j < i → Cov j l
theorem RunInv.start (l : List Sp) : RunInv l 0 0 [] := ⟨⟨by simp, by simp⟩, by simp, fun j => ⟨fun h => absurd h (Cov.nil _), fun h => by omega⟩, fun j h1 h2 => by omega⟩
theorem RunInv.more {l : List Sp} {i a : Nat} {R : List Sp} (h : RunInv l i a R) (hc : Cov i l) : RunInv l (i + 1) a R :=
  ⟨h.canon, h.ends, h.cov, fun j h1 h2 => by
    rcases Int.lt_or_le j i with h3 | h3
    · exact h.opened j h1 h3
    · obtain rfl : j = i := by omega
      exact hc⟩
theorem RunInv.flush {l : List Sp} {i a : Nat} {R : List Sp} (h : RunInv l i a R) (ha : a < i) : Canon (R ++ [((a : Int), (i : Int))]) ∧ ∀ j : Int, Cov j (R ++ [((a : Int), (i : Int))]) ↔ 0 ≤ j ∧ j < i ∧ Cov j l := by
  refine ⟨(canon_snoc _ _).2 ⟨h.canon, by simp only; omega, fun r hr => h.ends r hr⟩, fun j => ?_⟩
  rw [Cov.append, h.cov, Cov.cons]
  simp only [Cov.nil, or_false]
  constructor
  · rintro (⟨h1, h2, h3⟩ | ⟨h1, h2⟩)
    · exact ⟨h1, by omega, h3⟩
    · exact ⟨by omega, h2, h.opened j h1 h2⟩
  · rintro ⟨h1, h2, h3⟩
    rcases Int.lt_or_le j a with h4 | h4
    · exact .inl ⟨h1, h4, h3⟩
    · exact .inr ⟨h4, h2⟩
theorem RunInv.close {l : List Sp} {i a : Nat} {R : List Sp} (h : RunInv l i a R) (ha : a < i) (hno : ¬ Cov i l) : RunInv l (i + 1) (i + 1) (R ++ [((a : Int), (i : Int))]) := by
  obtain ⟨f1, f2⟩ := h.flush ha
  refine ⟨f1, fun r hr => ?_, fun j => ?_, fun j h1 h2 => by omega⟩
  · rcases List.mem_append.1 hr with hr | hr
    · have := h.ends r hr; omega
    · simp at hr; subst hr; simp only; omega
  · rw [f2]
    constructor
    · exact fun ⟨h1, h2, h3⟩ => ⟨h1, by omega, h3⟩
    · rintro ⟨h1, h2, h3⟩
      refine ⟨h1, ?_, h3⟩
      rcases Int.lt_or_le j i with h4 | h4
      · exact h4
      · obtain rfl : j = i := by omega
        exact absurd h3 hno
theorem RunInv.skip {l : List Sp} {i : Nat} {R : List Sp} (h : RunInv l i i R) (hno : ¬ Cov i l) : RunInv l (i + 1) (i + 1) R := by
  refine ⟨h.canon, fun r hr => by have := h.ends r hr; omega, fun j => ?_, fun j h1 h2 => by omega⟩
  rw [h.cov]
  constructor
  · exact fun ⟨h1, h2, h3⟩ => ⟨h1, by omega, h3⟩
  · rintro ⟨h1, h2, h3⟩
    refine ⟨h1, ?_, h3⟩
    rcases Int.lt_or_le j i with h4 | h4
    · exact h4
    · obtain rfl : j = i := by omega
      exact absurd h3 hno
theorem extract_join (s : ByteArray) (a b c : Nat) (h1 : a ≤ b) (h2 : b ≤ c) : s.extract a b ++ s.extract b c = s.extract a c := by
  apply ByteArray.ext
  simp [Nat.min_eq_left h1, Nat.max_eq_right h2]
def RCutRel (text : ByteArray) (l : List Sp) (w : World) (t5 t6 t7 : Value) (wr : World) : Prop :=
  ∃ (i a : Nat) (R : List Sp), t7 = .int .i64 i ∧ wr.ownsRow w.heap.size 9 1 t5 R.length (cutCells text R) ∧ Below w.heap.size w wr ∧ R.length ≤ i ∧
    ((i ≤ text.size ∧ a ≤ i ∧ t6 = .string (text.extract a i) ∧ RunInv l i a R) ∨ (i = text.size + 1 ∧ Canon R ∧ ∀ j : Int, Cov j R ↔ 0 ≤ j ∧ j < text.size ∧ Cov j l))
/-- What the answer's Cut owes. -/
def RCutPost (text : ByteArray) (l : List Sp) (w : World) (e : Ending) (w' : World) : Prop :=
  ∃ vp R, e = .returned vp ∧ Canon R ∧ (∀ j : Int, Cov j R ↔ 0 ≤ j ∧ j < text.size ∧ Cov j l) ∧ w'.ownsRow w.heap.size 9 1 vp R.length (cutCells text R) ∧ Below w.heap.size w w'
set_option maxHeartbeats 2000000 in
set_option maxRecDepth 100000 in
theorem rcut_any (text : ByteArray) (w : World) (v : Value) (l : List Sp) (h : RdS w v l) (hl : l.length ≤ 1000000) (hn : text.size ≤ 1000) :
    Calls Try.prog 22 #[.string text, v] w (RCutPost text l w) := by
  obtain ⟨i0, hi, hz0, hz1, hz2⟩ := info_parts strInfo
  have H := Lib.hid h
  clear h
  go_enter Try.func22, Try.ntmps22
  go_wp2_with fail
  go_loopw [5, 6, 7] (fun t5 t6 t7 wr => RCutRel text l w t5 t6 t7 wr) (fun _ _ t _ => text.size + 1 - (intOf t).toNat)
  case atStart => exact ⟨0, 0, [], rfl, World.ownsRow_nil _ _ _ _, Below.refl _ _, Nat.le_refl _, .inl ⟨Nat.zero_le _, Nat.le_refl _, by simp; rfl, RunInv.start l⟩⟩
  case round =>
    obtain ⟨i, a, R, rfl, hown, hbw, hRl, hcase⟩ := hrel
    obtain ⟨A5, c5, rfl, _, _, _⟩ := own_form hown
    rcases hcase with ⟨hin, hai, rfl, hrun⟩ | ⟨hie, hcan, hcov⟩
    · have HR := Lib.hid hrun
      clear hrun
      obtain ⟨t, ht⟩ : ∃ t, text.extract a i = t := ⟨_, rfl⟩
      rw [ht]
      have hts : t.size ≤ 1000 := by rw [← ht, ByteArray.size_extract]; omega
      have HNE : Hid (a < i → t.toList.isEmpty = false) := Lib.hid (fun h => by
        have hz : 0 < t.size := by rw [← ht, ByteArray.size_extract]; omega
        rw [ByteArray.toList_eq]
        cases hb : t.data.toList with
        | nil =>
          have : t.data.toList.length = t.size := by simp
          rw [hb] at this
          simp at this
          omega
        | cons x l => rfl)
      have HEM : Hid (a = i → t.toList.isEmpty = true) := Lib.hid (fun h => by
        have hz : t.size = 0 := by rw [← ht, ByteArray.size_extract]; omega
        rw [ByteArray.toList_eq]
        cases hb : t.data.toList with
        | nil => rfl
        | cons x l =>
          have : t.data.toList.length = t.size := by simp
          rw [hb, hz] at this
          simp at this)
      have HT := Lib.hid ht
      clear ht
      by_cases hlt : i < text.size
      · have d1 : decide (i < text.size) = true := decide_eq_true hlt
        by_cases hcv : hasB l i = true
        · have f1 : ¬ 9223372036854775807 < t.size + (min (i + 1) text.size - i) := by omega
          go_wp2_with fail
          refine (rhas_any _ _ _ l (RdS.below H.out hbw) hl).mono ?_
          rintro e w' ⟨rfl, rfl⟩
          rw [hcv]
          have Hcv := Lib.hid hcv
          clear hcv
          go_wp2_with fail
          go_roundw
          case rel =>
            refine ⟨i + 1, a, R, by go_num, hown, hbw, by omega, .inl ⟨hlt, by omega, ?_, HR.out.more ((hasB_cov l i).1 Hcv.out)⟩⟩
            rw [← HT.out, extract_join _ _ _ _ hai (by omega)]
          case measure => simp [intOf]; omega
        · have hcv' : hasB l i = false := by simpa using hcv
          clear hcv
          have Hcv : Hid (¬ Cov i l) := Lib.hid (fun h => by rw [(hasB_cov l i).2 h] at hcv'; cases hcv')
          have hnew : ∀ (V : Value) (w2 : World), a < i → w2.ownsRow w.heap.size 9 1 V (R.length + 1) (cutCells text R ++ [.string t]) → w2.ownsRow w.heap.size 9 1 V (R ++ [((a : Int), (i : Int))]).length (cutCells text (R ++ [((a : Int), (i : Int))])) := by
            intro V w2 _ h
            have e : cutCells text (R ++ [((a : Int), (i : Int))]) = cutCells text R ++ [.string t] := by rw [← HT.out]; simp [cutCells]
            rw [e, List.length_append]
            exact h
          have HN := Lib.hid hnew
          clear hnew
          rcases Nat.lt_or_ge a i with hai2 | hai2
          · have he : t.toList.isEmpty = false := HNE.out hai2
            have he2 : (!t.toList.isEmpty) = true := by rw [he]; rfl
            go_wp2_with fail
            refine (rhas_any _ _ _ l (RdS.below H.out hbw) hl).mono ?_
            rintro e w' ⟨rfl, rfl⟩
            rw [hcv']
            clear hcv'
            go_wp2_with (at_builtin; refine wpList_append_own _ rfl (.tmp 32) (.tmp 34) 34 rfl w.heap.size 9 i0 _ 1 16 Try.underlying34 hi hz0 hz1 hz2 rfl (by decide) _ R.length (cutCells text R) rfl (hown.alloc _) ⟨wr.heap.size, 0, none⟩ 1 1 [_] rfl rfl (cells_new' wr _ (by simp) _ _) (fun u hu => by simp at hu; subst hu; rfl) (by unfold maxLen; omega) (by omega) (by have := hbw.size; simp; omega) ?_; intro v1 w2 hown1 hg1 _; obtain ⟨g1, cp1, rfl, _, _⟩ := own_shape hown1 (by omega))
            go_roundw
            case rel => exact ⟨i + 1, i + 1, R ++ [((a : Int), (i : Int))], by go_num, HN.out _ _ hai2 hown1, (hbw.alloc hbw.size _).grown hg1 (by have := hbw.size; simp; omega) (fun b hb => (hown.lt b hb).1), by simp; omega, .inl ⟨hlt, Nat.le_refl _, by simp; rfl, HR.out.close hai2 Hcv.out⟩⟩
            case measure => simp [intOf]; omega
          · obtain rfl : a = i := by omega
            have he : t.toList.isEmpty = true := HEM.out rfl
            have he2 : (!t.toList.isEmpty) = false := by rw [he]; rfl
            go_wp2_with fail
            refine (rhas_any _ _ _ l (RdS.below H.out hbw) hl).mono ?_
            rintro e w' ⟨rfl, rfl⟩
            rw [hcv']
            clear hcv'
            go_wp2_with fail
            go_roundw
            case rel => exact ⟨a + 1, a + 1, R, by go_num, hown, hbw, by omega, .inl ⟨hlt, Nat.le_refl _, by rw [← HT.out]; simp, HR.out.skip Hcv.out⟩⟩
            case measure => simp [intOf]; omega
      · obtain rfl : i = text.size := by omega
        have d1 : decide (text.size < text.size) = false := by simp
        rcases Nat.lt_or_ge a text.size with hai2 | hai2
        · have he : t.toList.isEmpty = false := HNE.out hai2
          have he2 : (!t.toList.isEmpty) = true := by rw [he]; rfl
          have hnew : ∀ (V : Value) (w2 : World), w2.ownsRow w.heap.size 9 1 V (R.length + 1) (cutCells text R ++ [.string t]) → w2.ownsRow w.heap.size 9 1 V (R ++ [((a : Int), (text.size : Int))]).length (cutCells text (R ++ [((a : Int), (text.size : Int))])) := by
            intro V w2 h
            have e : cutCells text (R ++ [((a : Int), (text.size : Int))]) = cutCells text R ++ [.string t] := by rw [← HT.out]; simp [cutCells]
            rw [e, List.length_append]
            exact h
          have HN := Lib.hid hnew
          clear hnew
          go_wp2_with (at_builtin; refine wpList_append_own _ rfl (.tmp 32) (.tmp 34) 34 rfl w.heap.size 9 i0 _ 1 16 Try.underlying34 hi hz0 hz1 hz2 rfl (by decide) _ R.length (cutCells text R) rfl (hown.alloc _) ⟨wr.heap.size, 0, none⟩ 1 1 [_] rfl rfl (cells_new' wr _ (by simp) _ _) (fun u hu => by simp at hu; subst hu; rfl) (by unfold maxLen; omega) (by omega) (by have := hbw.size; simp; omega) ?_; intro v1 w2 hown1 hg1 _; obtain ⟨g1, cp1, rfl, _, _⟩ := own_shape hown1 (by omega))
          go_roundw
          case rel => exact ⟨text.size + 1, a, R ++ [((a : Int), (text.size : Int))], rfl, HN.out _ _ hown1, (hbw.alloc hbw.size _).grown hg1 (by have := hbw.size; simp; omega) (fun b hb => (hown.lt b hb).1), by simp; omega, .inr ⟨rfl, HR.out.flush hai2⟩⟩
          case measure => simp [intOf]
        · obtain rfl : a = text.size := by omega
          have he : t.toList.isEmpty = true := HEM.out rfl
          have he2 : (!t.toList.isEmpty) = false := by rw [he]; rfl
          go_wp2_with fail
          go_roundw
          case rel => exact ⟨text.size + 1, text.size, R, rfl, hown, hbw, by omega, .inr ⟨rfl, HR.out.canon, HR.out.cov⟩⟩
          case measure => simp [intOf]
    · have d1 : decide (i ≤ text.size) = false := decide_eq_false (by omega)
      have d2 : ¬ (i : Int) ≤ (text.size : Int) := by omega
      have HC := Lib.hid hcan
      have HV := Lib.hid hcov
      clear hcan hcov hie
      obtain ⟨L, hL⟩ : ∃ L, L = R := ⟨_, rfl⟩
      have HL := Lib.hid hL
      clear hL
      go_wp2_with fail
      go_ret
      exact ⟨_, R, rfl, HC.out, HV.out, hown, hbw⟩
end Go.Proofs.Ytlifkfihpmkffaa
