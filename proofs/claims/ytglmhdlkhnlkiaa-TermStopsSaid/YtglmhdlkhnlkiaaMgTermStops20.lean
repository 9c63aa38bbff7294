/- Texts of one proof, one behind the other. -/
import Derived.Test.YtglmhdlkhnlkiaaMgTermStops19
import Derived.Deep.RegionWith
import Derived.Test.YtglmhdlkhnlkiaaMgTermStops4
import Derived.Test.YtglmhdlkhnlkiaaMgTermStops9
import Derived.Test.YtglmhdlkhnlkiaaMgTermStops11
import Derived.Test.YtglmhdlkhnlkiaaMgTermStops13
import Derived.Test.YtglmhdlkhnlkiaaMgTermStops16
/- The contracts of lex.Name, and of the answer's Name. -/
namespace Go.Proofs.Ytglmhdlkhnlkiaa
open Go.RowKit

/-- Whether a text is a name that may be. -/
def nameB (l : List Int) : Bool := !l.isEmpty && (smallB (at_ l 0) && (endAt innerB l 0 == l.length && (decide (l.length ≤ 20) && !kwB l)))
theorem name_empty (s : ByteArray) (h : s.size = 0) : nameB (bs s) = false := by
  have : bs s = [] := List.eq_nil_of_length_eq_zero (by rw [bs_length]; exact h)
  rw [this]; rfl
theorem name_full (s : ByteArray) (h : 0 < s.size) : nameB (bs s) = (smallB (s[0].toNat : Int) && (endAt innerB (bs s) 0 == s.size && (decide (s.size ≤ 20) && !kwB (bs s)))) := by
  unfold nameB
  rw [bs_length, at_bs s 0 h]
  have : (bs s).isEmpty = false := by
    have := bs_length s
    rcases hb : bs s with _ | ⟨a, l⟩
    · rw [hb] at this; simp at this; omega
    · rfl
  rw [this]; rfl
theorem toList_nil (s : ByteArray) (h : s.size = 0) : s.toList = [] := by
  rw [toList_data]
  exact List.eq_nil_of_length_eq_zero (by rw [Array.length_toList]; exact h)
theorem toList_ne (s : ByteArray) (h : 0 < s.size) : s.toList.isEmpty = false := by
  rw [toList_data]
  rcases hb : s.data.toList with _ | ⟨a, l⟩
  · have : s.data.toList.length = 0 := by rw [hb]; rfl
    rw [Array.length_toList] at this
    have h2 : s.data.size = s.size := rfl
    omega
  · rfl

set_option maxHeartbeats 1000000 in
theorem lname_any (s : ByteArray) (w : World) (hs : s.size ≤ maxLen) :
    Calls Try.prog 56 #[.string s] w fun e w' => e = .returned (.bool (nameB (bs s))) ∧ w = w' := by
  by_cases h0 : s.size = 0
  · rw [name_empty s h0]
    have e1 := toList_nil s h0
    clear h0
    go_enter Try.func56, Try.ntmps56
    go_wp2_with fail
    go_ret
    exact ⟨rfl, rfl⟩
  · have h1 : 0 < s.size := by omega
    rw [name_full s h1]
    have e1 := toList_ne s h1
    have hle := endAt_le innerB (bs s) 0 (Nat.zero_le _)
    rw [bs_length] at hle
    obtain ⟨n, hn⟩ : ∃ n, n = endAt innerB (bs s) 0 := ⟨_, rfl⟩
    rw [← hn] at hle ⊢
    have Hn := Lib.hid hn
    clear hn h0
    obtain ⟨R, hR⟩ : ∃ R, R = (smallB (s[0].toNat : Int) && (n == s.size && (decide (s.size ≤ 20) && !kwB (bs s)))) := ⟨_, rfl⟩
    rw [← hR]
    have HR := Lib.hid hR
    clear hR
    have hsl := hs
    unfold maxLen at hs
    by_cases h2 : smallB (s[0].toNat : Int) = true
    · by_cases h3 : n = s.size
      · have h3' : ((n : Int) == (s.size : Int)) = true := by simp; omega
        have H3 := Lib.hid h3
        clear h3
        by_cases h4 : s.size ≤ 20
        · have h4' : (s.size : Int) ≤ 20 := by omega
          by_cases h5 : kwB (bs s) = true
          all_goals
            go_enter Try.func56, Try.ntmps56
            go_wp2_with (go_at_call 63; refine (isSmall_any _ _).mono ?_; rintro e w' ⟨rfl, rfl⟩)
            refine (letters_any s 0 _ hsl (Nat.zero_le _)).mono ?_
            rintro e w' ⟨rfl, rfl⟩
            rw [← Hn.out]
            go_wp2_with (go_at_call 65; refine (keyword_any _ _).mono ?_; rintro e w' ⟨rfl, rfl⟩)
            go_ret
            exact ⟨lret_bool (by rw [HR.out]; simp [h2, H3.out, h4, h5]), rfl⟩
        · have h4' : ¬ (s.size : Int) ≤ 20 := by omega
          go_enter Try.func56, Try.ntmps56
          go_wp2_with (go_at_call 63; refine (isSmall_any _ _).mono ?_; rintro e w' ⟨rfl, rfl⟩)
          refine (letters_any s 0 _ hsl (Nat.zero_le _)).mono ?_
          rintro e w' ⟨rfl, rfl⟩
          rw [← Hn.out]
          go_wp2_with (go_at_call 65; refine (keyword_any _ _).mono ?_; rintro e w' ⟨rfl, rfl⟩)
          go_ret
          exact ⟨lret_bool (by rw [HR.out]; simp [h2, H3.out, h4]), rfl⟩
      · have h3' : ((n : Int) == (s.size : Int)) = false := by simp; omega
        go_enter Try.func56, Try.ntmps56
        go_wp2_with (go_at_call 63; refine (isSmall_any _ _).mono ?_; rintro e w' ⟨rfl, rfl⟩)
        refine (letters_any s 0 _ hsl (Nat.zero_le _)).mono ?_
        rintro e w' ⟨rfl, rfl⟩
        rw [← Hn.out]
        go_wp2_with (go_at_call 65; refine (keyword_any _ _).mono ?_; rintro e w' ⟨rfl, rfl⟩)
        go_ret
        exact ⟨lret_bool (by rw [HR.out]; simp [h3]), rfl⟩
    · have h2' : smallB (s[0].toNat : Int) = false := by simpa using h2
      clear h2
      go_enter Try.func56, Try.ntmps56
      go_wp2_with (go_at_call 63; refine (isSmall_any _ _).mono ?_; rintro e w' ⟨rfl, rfl⟩)
      go_ret
      exact ⟨lret_bool (by rw [HR.out]; simp [h2']), rfl⟩

theorem nameB_inner (l : List Int) (k : Nat) (h : k < l.length) (he : endAt innerB l 0 = endAt innerB l k) (hi : innerB l[k] = false) : nameB l = false := by
  rw [endAt_stop h hi] at he
  unfold nameB
  rw [he]
  have : (k == l.length) = false := by simp; omega
  rw [this]; simp
theorem nameB_first (l : List Int) (h : 0 < l.length) (hi : smallB l[0] = false) : nameB l = false := by
  unfold nameB
  rw [at_get _ _ h, hi]; simp
theorem nameB_end (l : List Int) (he : endAt innerB l 0 = l.length) (hs : 0 < l.length → smallB (at_ l 0) = true) : nameB l = (decide (0 < l.length) && (decide (l.length ≤ 20) && !kwB l)) := by
  unfold nameB
  rw [he]
  rcases l with _ | ⟨a, l⟩
  · rfl
  · rw [hs (by simp)]; simp

set_option maxHeartbeats 1000000 in
theorem rName_any (s : ByteArray) (w : World) (hs : s.size ≤ maxLen) :
    Calls Try.prog 46 #[.string s] w fun e w' => e = .returned (.bool (nameB (bs s))) ∧ Below w.heap.size w w' := by
  unfold maxLen at hs
  go_enter Try.func46, Try.ntmps46
  go_wp2_with fail
  go_loop [3] (fun t => ∃ k : Nat, k ≤ s.size ∧ t = .int .i64 k ∧ endAt innerB (bs s) 0 = endAt innerB (bs s) k ∧ (0 < k → smallB (at_ (bs s) 0) = true)) (fun t => s.size - (intOf t).toNat)
  case atStart => exact ⟨0, Nat.zero_le _, rfl, rfl, fun h => absurd h (by omega)⟩
  case round =>
    obtain ⟨k, hk, rfl, he, hsm⟩ := hrel
    have He := Lib.hid he
    have Hsm := Lib.hid hsm
    clear he hsm
    by_cases hlt : k < s.size
    · have hg := bs_get s k hlt
      have hll : k < (bs s).length := by rw [bs_length]; exact hlt
      by_cases hin : innerB (s[k].toNat : Int) = true
      · have HE : Hid (endAt innerB (bs s) k = endAt innerB (bs s) (k + 1)) := endAt_go hll (by rw [hg]; exact hin)
        rcases k with _ | j
        · clear He
          by_cases hs0 : smallB (s[0].toNat : Int) = true
          · have H0 : Hid (smallB (at_ (bs s) 0) = true) := by
              show smallB (at_ (bs s) 0) = true
              rw [at_bs s 0 hlt]; exact hs0
            clear hg hll
            go_wp2_with (first | (go_at_call 59; refine (rInner_any _ _).mono ?_; rintro e w' ⟨rfl, rfl⟩) | (go_at_call 60; refine (rLetter_any _ _).mono ?_; rintro e w' ⟨rfl, rfl⟩))
            go_round
            case rel => exact ⟨1, by omega, by go_num, HE.out, fun _ => H0.out⟩
            case measure => simp [intOf]; omega
          · have hs0' : smallB (s[0].toNat : Int) = false := by simpa using hs0
            have HN : Hid (nameB (bs s) = false) := nameB_first _ hll (by rw [hg]; exact hs0')
            clear hg hll hs0
            go_wp2_with (first | (go_at_call 59; refine (rInner_any _ _).mono ?_; rintro e w' ⟨rfl, rfl⟩) | (go_at_call 60; refine (rLetter_any _ _).mono ?_; rintro e w' ⟨rfl, rfl⟩))
            go_ret
            exact ⟨lret_bool HN.out.symm, Below.refl _ _⟩
        · have hj0 : ((j : Int) + 1 == 0) = false := by simp; omega
          clear hg hll
          go_wp2_with (first | (go_at_call 59; refine (rInner_any _ _).mono ?_; rintro e w' ⟨rfl, rfl⟩) | (go_at_call 60; refine (rLetter_any _ _).mono ?_; rintro e w' ⟨rfl, rfl⟩))
          go_round
          case rel => exact ⟨j + 1 + 1, by omega, by go_num, He.out.trans HE.out, fun _ => Hsm.out (by omega)⟩
          case measure => simp [intOf]; omega
      · have hin' : innerB (s[k].toNat : Int) = false := by simpa using hin
        have HN : Hid (nameB (bs s) = false) := nameB_inner _ k hll He.out (by rw [hg]; exact hin')
        clear hg hll hin
        go_wp2_with (first | (go_at_call 59; refine (rInner_any _ _).mono ?_; rintro e w' ⟨rfl, rfl⟩) | (go_at_call 60; refine (rLetter_any _ _).mono ?_; rintro e w' ⟨rfl, rfl⟩))
        go_ret
        exact ⟨lret_bool HN.out.symm, Below.refl _ _⟩
    · have hke : k = s.size := by omega
      subst hke
      have hend : endAt innerB (bs s) 0 = (bs s).length := by rw [He.out, bs_length, endAt_end (by rw [bs_length]; omega)]
      have hN := nameB_end (bs s) hend (fun h => Hsm.out (by rw [bs_length] at h; exact h))
      rw [bs_length] at hN
      have HN := Lib.hid hN
      clear hend hN
      by_cases h1 : 0 < s.size
      · have h1' : (0 : Int) < (s.size : Int) := by omega
        by_cases h2 : s.size ≤ 20
        · have h2' : (s.size : Int) ≤ 20 := by omega
          go_wp2_with (go_at_call 61; refine (rKeyword_any _ _).mono ?_; rintro e w' ⟨rfl, hb⟩)
          go_ret
          exact ⟨lret_bool (by rw [HN.out]; simp [h1, h2]), hb⟩
        · have h2' : ¬ (s.size : Int) ≤ 20 := by omega
          go_wp2_with (go_at_call 61; refine (rKeyword_any _ _).mono ?_; rintro e w' ⟨rfl, hb⟩)
          go_ret
          exact ⟨lret_bool (by rw [HN.out]; simp [h2]), Below.refl _ _⟩
      · have h1' : ¬ (0 : Int) < (s.size : Int) := by omega
        go_wp2_with (go_at_call 61; refine (rKeyword_any _ _).mono ?_; rintro e w' ⟨rfl, hb⟩)
        go_ret
        exact ⟨lret_bool (by rw [HN.out]; simp [h1]), Below.refl _ _⟩
end Go.Proofs.Ytglmhdlkhnlkiaa
/- A variable; a type without parts; two types at an address (what of AwA speaks of no text). -/
namespace Go.Proofs.Ytglmhdlkhnlkiaa
open Go.RowKit Go.Shelf
/-- Two types at an address. -/
theorem two_cells {X : World} (g cp : Nat) (k0 n0 k1 n1 : Int) (u0 u1 : Sl) (f0 f1 : Fo) (hg : g < X.heap.size) (hcp : 2 ≤ cp) (hcm : cp ≤ maxLen) (c0 : X.cell? ⟨g, 0, none⟩ = some (.int .i64 k0)) (c1 : X.cell? ⟨g, 1, none⟩ = some (.int .i64 n0)) (c2 : X.cell? ⟨g, 2, none⟩ = some (slv u0)) (c3 : X.cell? ⟨g, 3, none⟩ = some (.int .i64 k1)) (c4 : X.cell? ⟨g, 4, none⟩ = some (.int .i64 n1)) (c5 : X.cell? ⟨g, 5, none⟩ = some (slv u1)) (h0 : TyV X.heap.size X f0 (slv u0)) (h1 : TyV X.heap.size X f1 (slv u1)) : TyV X.heap.size X (.cons k0 n0 u0 f0 (.cons k1 n1 u1 f1 .nil)) (.slice (some ⟨g, 0, none⟩) 2 cp) :=
  tyV_cons.2 ⟨g, 0, cp, rfl, hcp, hcm, hg, tyC_cons.2 ⟨c0, c1, c2, h0, tyC_cons.2 ⟨c3, c4, c5, h1, tyC_nil⟩⟩⟩
theorem no_parts (B : Nat) (w : World) : TyV B w .nil (slv (none, 0, 0)) := tyV_nil.2 ⟨none, 0, rfl⟩
end Go.Proofs.Ytglmhdlkhnlkiaa
/- The answer's Right. -/
namespace Go.Proofs.Ytglmhdlkhnlkiaa
open Go.RowKit

theorem Fo.pre_split (f : Fo) (j : Nat) (hj : j < f.len) : f.pre = (f.take j).pre ++ (((f.at_ j).1, (f.at_ j).2.1, (f.at_ j).2.2.1) :: (f.at_ j).2.2.2.pre) ++ (f.drop (j + 1)).pre := by
  induction f generalizing j with
  | nil => simp [Fo.len] at hj
  | cons k n v ps r _ ih =>
    cases j with
    | zero => simp [Fo.at_, Fo.pre, Fo.take, Fo.drop]
    | succ j =>
      have := ih j (by simp [Fo.len] at hj; omega)
      simp only [Fo.pre, Fo.take, Fo.at_, Fo.drop]
      rw [this]
      simp
theorem Fo.pre_take (f : Fo) (j : Nat) (hj : j < f.len) : (f.take (j + 1)).pre = (f.take j).pre ++ (((f.at_ j).1, (f.at_ j).2.1, (f.at_ j).2.2.1) :: (f.at_ j).2.2.2.pre) := by
  rw [Fo.take_step f j hj, Fo.pre_app]
  simp [Fo.pre]
theorem allAlone_appJ (a b : List Tr) : allAlone (a ++ b) = (allAlone a && allAlone b) := by simp [allAlone]
theorem allAlone_cons (x : Tr) (b : List Tr) : allAlone (x :: b) = (alone x.1 x.2.1 x.2.2.2.1 && allAlone b) := by simp [allAlone]
theorem TyV.len {B : Nat} {w : World} {f : Fo} {u : Sl} (h : TyV B w f (slv u)) : u.2.1 = f.len := by
  obtain ⟨A, c, hv⟩ := h.slice
  unfold slv at hv
  injection hv
set_option maxHeartbeats 2000000 in
set_option maxRecDepth 100000 in
theorem rright_any (m : Nat) : ∀ (f : Fo) (k n : Int) (v : Value) (w : World), f.size < m → f.size ≤ 1000000 → TyV w.heap.size w f v →
    Calls Try.prog 47 #[tyVal k n v] w fun e w' => e = .returned (.bool (alone k n f.len && allAlone f.pre)) ∧ Below w.heap.size w w' := by
  induction m with
  | zero => intro f k n v w h; omega
  | succ m ih =>
    intro f k n v w hm hs h
    obtain ⟨A, c, rfl⟩ := h.slice
    have H := Lib.hid h
    have IH := Lib.hid ih
    have hll := f.len_le_size
    clear h ih
    unfold tyVal
    go_enter Try.func47, Try.ntmps47
    obtain ⟨q, hq⟩ : ∃ q, f.len = q := ⟨_, rfl⟩
    rw [hq] at hll ⊢
    have HB0 := Lib.hid (show ∀ (cs : Array Value) (t : TypeId), Below w.heap.size w (w.alloc (Obj.cells cs t)) from fun cs t => (Below.refl _ w).alloc (Nat.le_refl _) _)
    have HQ := Lib.hid hq
    clear hq
    have done : alone k n q = false → ∀ (cs : Array Value) (t : TypeId), (Ending.returned (.bool false) = .returned (.bool (alone k n q && allAlone f.pre)) ∧ Below w.heap.size w (w.alloc (Obj.cells cs t))) := by
      intro h1 cs t
      rw [h1]
      exact ⟨rfl, HB0.out _ _⟩
    have DONE := Lib.hid done
    clear done
    by_cases h1 : k = 1
    case' pos =>
      subst h1
      by_cases h2 : n < 0
      · have f2 : decide (n < 0) = true := decide_eq_true h2
        go_wp2_with fail
        go_ret
        exact DONE.out (by unfold alone; rw [if_pos rfl, decide_eq_false (by omega : ¬ 0 ≤ n)]; rfl) _ _
      have f2 : decide (n < 0) = false := decide_eq_false h2
      by_cases h3 : 1073741824 ≤ n
      · have f3 : decide (1073741824 ≤ n) = true := decide_eq_true h3
        go_wp2_with fail
        go_ret
        exact DONE.out (by unfold alone; rw [if_pos rfl, decide_eq_false (by omega : ¬ n < 1073741824)]; simp) _ _
      have f3 : decide (1073741824 ≤ n) = false := decide_eq_false h3
      by_cases h4 : 0 < q
      · have f5 : decide (0 < q) = true := decide_eq_true h4
        go_wp2_with fail
        go_ret
        exact DONE.out (by unfold alone; rw [if_pos rfl, beq_eq_false_iff_ne.2 (by omega : (q : Int) ≠ 0)]; simp) _ _
      have hal : alone 1 n q = true := by
        obtain rfl : q = 0 := by omega
        unfold alone
        rw [if_pos rfl, decide_eq_true (by omega : 0 ≤ n), decide_eq_true (by omega : n < 1073741824)]
        rfl
      have HA := Lib.hid hal
      have f5 : decide (0 < q) = false := decide_eq_false h4
      clear hal h2 h3 h4
      go_wp2_with fail
    case' neg =>
      by_cases h2 : n = 0
      case neg =>
        have f1 : (k == 1) = false := beq_eq_false_iff_ne.2 h1
        have f2 : (n != 0) = true := bne_iff_ne.2 h2
        go_wp2_with fail
        go_ret
        refine DONE.out ?_ _ _
        unfold alone
        simp [h1, h2]
      subst h2
      by_cases h2 : k = 2
      case' pos =>
        subst h2
        by_cases h4 : 0 < q
        · have f5 : decide (0 < q) = true := decide_eq_true h4
          go_wp2_with fail
          go_ret
          exact DONE.out (by unfold alone; simp; omega) _ _
        have hal : alone 2 0 q = true := by obtain rfl : q = 0 := by omega
                                            rfl
        have HA := Lib.hid hal
        have f5 : decide (0 < q) = false := decide_eq_false h4
        clear hal h4 h1
        go_wp2_with fail
      case' neg =>
        by_cases h3 : k = 3
        case' pos =>
          subst h3
          by_cases h4 : 0 < q
          · have f5 : decide (0 < q) = true := decide_eq_true h4
            go_wp2_with fail
            go_ret
            exact DONE.out (by unfold alone; simp; omega) _ _
          have hal : alone 3 0 q = true := by obtain rfl : q = 0 := by omega
                                              rfl
          have HA := Lib.hid hal
          have f5 : decide (0 < q) = false := decide_eq_false h4
          clear hal h4 h1 h2
          go_wp2_with fail
        case' neg =>
          by_cases h4 : k = 4
          case' pos =>
            subst h4
            by_cases h5 : q = 2
            case neg =>
              have f5 : ((q : Int) != 2) = true := bne_iff_ne.2 (by omega)
              go_wp2_with fail
              go_ret
              exact DONE.out (by unfold alone; simp; omega) _ _
            have f5 : ((q : Int) != 2) = false := by rw [h5]; rfl
            have hal : alone 4 0 q = true := by rw [h5]; rfl
            have HA := Lib.hid hal
            clear hal h5 h1 h2 h3
            go_wp2_with fail
          case' neg =>
            by_cases h5 : k = 5
            case' pos =>
              subst h5
              by_cases h6 : q < 2
              · have f5 : decide (q < 2) = true := decide_eq_true h6
                go_wp2_with fail
                go_ret
                exact DONE.out (by unfold alone; simp; omega) _ _
              have f5 : decide (q < 2) = false := decide_eq_false h6
              by_cases h7 : 8 < q
              · have f6 : decide (8 < q) = true := decide_eq_true h7
                go_wp2_with fail
                go_ret
                exact DONE.out (by unfold alone; simp; omega) _ _
              have f6 : decide (8 < q) = false := decide_eq_false h7
              have hal : alone 5 0 q = true := by unfold alone; simp; omega
              have HA := Lib.hid hal
              clear hal h1 h2 h3 h4
              go_wp2_with fail
              all_goals try (exfalso; omega)
            case' neg =>
              have f1 : (k == 1) = false := beq_eq_false_iff_ne.2 h1
              have f2 : (k == 2) = false := beq_eq_false_iff_ne.2 h2
              have f3 : (k == 3) = false := beq_eq_false_iff_ne.2 h3
              have f4 : (k == 4) = false := beq_eq_false_iff_ne.2 h4
              have f5 : (k == 5) = false := beq_eq_false_iff_ne.2 h5
              by_cases h6 : k < 1
              · have f6 : decide (k < 1) = true := decide_eq_true h6
                go_wp2_with fail
                go_ret
                exact DONE.out (by unfold alone; simp [h1, h2, h3, h4, h5]) _ _
              · have f6 : decide (k < 1) = false := decide_eq_false h6
                have f7 : decide (5 < k) = true := decide_eq_true (by omega)
                go_wp2_with fail
                go_ret
                exact DONE.out (by unfold alone; simp [h1, h2, h3, h4, h5]) _ _
    all_goals
      go_loopw [4] (fun t4 wr => ∃ j : Nat, j ≤ q ∧ t4 = .int .i64 j ∧ allAlone (f.take j).pre = true ∧ wr.cell? ⟨w.heap.size, 2, none⟩ = some (.slice A q c) ∧ Below w.heap.size w wr ∧ w.heap.size + 1 ≤ wr.heap.size) (fun t _ => q - (intOf t).toNat)
      case atStart => exact ⟨0, Nat.zero_le _, rfl, by simp [Fo.take_zero, Fo.pre, allAlone], by go_simp, HB0.out _ _, by simp⟩
      case round =>
        obtain ⟨j, hj, rfl, hja, e2, hb, hz⟩ := hrel
        have HB := Lib.hid hb
        have HJA := Lib.hid hja
        clear hja hb
        by_cases hjl : j < q
        · have hjf : j < f.len := by rw [HQ.out]; exact hjl
          obtain ⟨b, off, cap, hv, _, _, hlt, hC⟩ := H.out.form (by omega)
          injection hv with hA _ hcc
          subst hA; subst hcc
          obtain ⟨d0, d1, d2, hch⟩ := tyC_at hC j hjf
          have c0 := (HB.out.cell (p := ⟨b, off + j * 3, none⟩) hlt).trans d0
          have c1 := (HB.out.cell (p := ⟨b, off + j * 3 + 1, none⟩) hlt).trans d1
          have c2 := (HB.out.cell (p := ⟨b, off + j * 3 + 2, none⟩) hlt).trans d2
          have hch' : TyV wr.heap.size wr (f.at_ j).2.2.2 (slv (f.at_ j).2.2.1) := (hch.keep HB.out.size fun b off hb' => HB.out.cell (p := ⟨b, off, none⟩) hb')
          have hsz := f.at_size j hjf
          have hsp := f.pre_split j hjf
          have htk := f.pre_take j hjf
          have hpl := hch.len
          have hrec := IH.out (f.at_ j).2.2.2 (f.at_ j).1 (f.at_ j).2.1 (slv (f.at_ j).2.2.1) wr (by omega) (by omega) hch'
          clear d0 d1 d2 hC hch hch' hsz
          unfold tyVal at hrec
          generalize f.at_ j = p at *
          obtain ⟨pk, pn, pv, pf⟩ := p
          dsimp only at hsp htk hpl hrec c0 c1 c2
          obtain ⟨x, hx⟩ : ∃ x, (alone pk pn pf.len && allAlone pf.pre) = x := ⟨_, rfl⟩
          rw [hx] at hrec
          have hxa : allAlone ((pk, pn, pv) :: pf.pre) = x := by rw [allAlone_cons, ← hx, hpl]
          have HREC := Lib.hid hrec
          have HSP := Lib.hid (show allAlone f.pre = (x && allAlone (f.drop (j + 1)).pre) by rw [hsp, allAlone_appJ, allAlone_appJ, HJA.out, hxa]; rfl)
          have HTK := Lib.hid (show allAlone (f.take (j + 1)).pre = x by rw [htk, allAlone_appJ, HJA.out, hxa]; rfl)
          clear hrec hsp htk hpl hx hxa hjf
          go_wp2_with fail
          refine HREC.out.mono ?_
          rintro e w2 ⟨rfl, hb3⟩
          have e2' := (hb3.cell (p := ⟨w.heap.size, 2, none⟩) (by simp only; omega)).trans e2
          have HB3 := Lib.hid hb3
          clear hb3
          cases x
          · go_wp2_with fail
            go_ret
            exact ⟨ret_bool (by rw [HA.out, HSP.out]; rfl), HB.out.trans (HB3.out.mono (by omega))⟩
          · go_wp2_with fail
            go_roundw
            case rel => exact ⟨j + 1, by omega, by go_num, HTK.out, e2', HB.out.trans (HB3.out.mono (by omega)), Nat.le_trans hz HB3.out.size⟩
            case measure => simp [intOf]; omega
        · obtain rfl : j = q := by omega
          have HT : Hid (f.take j = f) := Lib.hid (by rw [← HQ.out]; exact f.take_len)
          go_wp2_with fail
          go_ret
          exact ⟨ret_bool (by rw [HA.out, ← HT.out, HJA.out]; rfl), HB.out⟩
end Go.Proofs.Ytglmhdlkhnlkiaa
