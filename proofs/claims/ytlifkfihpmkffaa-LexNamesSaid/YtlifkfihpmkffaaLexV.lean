/- The contracts of lex.Name, of the answer's Name, and of the answer's Print. -/
import Derived.Test.YtlifkfihpmkffaaLexU
import Derived.Test.YtlifkfihpmkffaaLexW
import Derived.Test.YtlifkfihpmkffaaLexT0
namespace Go.Proofs.Ytlifkfihpmkffaa
open Go.RowKit

/-- Whether a text is a name that may be. -/
def nameB (l : List Int) : Bool := !l.isEmpty && (smallB (at_ l 0) && (endAt innerB l 0 == l.length && (decide (l.length ≤ 20) && !kwB l)))
theorem name_empty (s : ByteArray) (h : s.size = 0) : nameB (bs s) = false := by
  have : bs s = [] := List.eq_nil_of_length_eq_zero (by rw [bs_length]; exact h)
  rw [this]; rfl
theorem name_full (s : ByteArray) (h : 0 < s.size) : nameB (bs s) = (smallB (s[0].toNat : Int) && (endAt innerB (bs s) 0 == s.size && (decide (s.size ≤ 20) && !kwB (bs s)))) := by
  unfold nameB
  rw [bs_length, at_bs s 0 h]
  have : (bs s).isEmpty = false := by
    have := bs_length s
    rcases hb : bs s with _ | ⟨a, l⟩
    · rw [hb] at this; simp at this; omega
    · rfl
  rw [this]; rfl
theorem toList_nil (s : ByteArray) (h : s.size = 0) : s.toList = [] := by
  rw [toList_data]
  exact List.eq_nil_of_length_eq_zero (by rw [Array.length_toList]; exact h)
theorem toList_ne (s : ByteArray) (h : 0 < s.size) : s.toList.isEmpty = false := by
  rw [toList_data]
  rcases hb : s.data.toList with _ | ⟨a, l⟩
  · have : s.data.toList.length = 0 := by rw [hb]; rfl
    rw [Array.length_toList] at this
    have h2 : s.data.size = s.size := rfl
    omega
  · rfl

set_option maxHeartbeats 1000000 in
theorem name_any (s : ByteArray) (w : World) (hs : s.size ≤ maxLen) :
    Calls Try.prog 34 #[.string s] w fun e w' => e = .returned (.bool (nameB (bs s))) ∧ w = w' := by
  by_cases h0 : s.size = 0
  · rw [name_empty s h0]
    have e1 := toList_nil s h0
    clear h0
    go_enter Try.func34, Try.ntmps34
    go_wp2_with fail
    go_ret
    exact ⟨rfl, rfl⟩
  · have h1 : 0 < s.size := by omega
    rw [name_full s h1]
    have e1 := toList_ne s h1
    have hle := endAt_le innerB (bs s) 0 (Nat.zero_le _)
    rw [bs_length] at hle
    obtain ⟨n, hn⟩ : ∃ n, n = endAt innerB (bs s) 0 := ⟨_, rfl⟩
    rw [← hn] at hle ⊢
    have Hn := Lib.hid hn
    clear hn h0
    obtain ⟨R, hR⟩ : ∃ R, R = (smallB (s[0].toNat : Int) && (n == s.size && (decide (s.size ≤ 20) && !kwB (bs s)))) := ⟨_, rfl⟩
    rw [← hR]
    have HR := Lib.hid hR
    clear hR
    have hsl := hs
    unfold maxLen at hs
    by_cases h2 : smallB (s[0].toNat : Int) = true
    · by_cases h3 : n = s.size
      · have h3' : ((n : Int) == (s.size : Int)) = true := by simp; omega
        have H3 := Lib.hid h3
        clear h3
        by_cases h4 : s.size ≤ 20
        · have h4' : (s.size : Int) ≤ 20 := by omega
          by_cases h5 : kwB (bs s) = true
          all_goals
            go_enter Try.func34, Try.ntmps34
            go_wp2_with (go_at_call 54; refine (isSmall_any _ _).mono ?_; rintro e w' ⟨rfl, rfl⟩)
            refine (letters_any s 0 _ hsl (Nat.zero_le _)).mono ?_
            rintro e w' ⟨rfl, rfl⟩
            rw [← Hn.out]
            go_wp2_with (go_at_call 32; refine (keyword_any _ _).mono ?_; rintro e w' ⟨rfl, rfl⟩)
            go_ret
            exact ⟨ret_bool (by rw [HR.out]; simp [h2, H3.out, h4, h5]), rfl⟩
        · have h4' : ¬ (s.size : Int) ≤ 20 := by omega
          go_enter Try.func34, Try.ntmps34
          go_wp2_with (go_at_call 54; refine (isSmall_any _ _).mono ?_; rintro e w' ⟨rfl, rfl⟩)
          refine (letters_any s 0 _ hsl (Nat.zero_le _)).mono ?_
          rintro e w' ⟨rfl, rfl⟩
          rw [← Hn.out]
          go_wp2_with (go_at_call 32; refine (keyword_any _ _).mono ?_; rintro e w' ⟨rfl, rfl⟩)
          go_ret
          exact ⟨ret_bool (by rw [HR.out]; simp [h2, H3.out, h4]), rfl⟩
      · have h3' : ((n : Int) == (s.size : Int)) = false := by simp; omega
        go_enter Try.func34, Try.ntmps34
        go_wp2_with (go_at_call 54; refine (isSmall_any _ _).mono ?_; rintro e w' ⟨rfl, rfl⟩)
        refine (letters_any s 0 _ hsl (Nat.zero_le _)).mono ?_
        rintro e w' ⟨rfl, rfl⟩
        rw [← Hn.out]
        go_wp2_with (go_at_call 32; refine (keyword_any _ _).mono ?_; rintro e w' ⟨rfl, rfl⟩)
        go_ret
        exact ⟨ret_bool (by rw [HR.out]; simp [h3]), rfl⟩
    · have h2' : smallB (s[0].toNat : Int) = false := by simpa using h2
      clear h2
      go_enter Try.func34, Try.ntmps34
      go_wp2_with (go_at_call 54; refine (isSmall_any _ _).mono ?_; rintro e w' ⟨rfl, rfl⟩)
      go_ret
      exact ⟨ret_bool (by rw [HR.out]; simp [h2']), rfl⟩

theorem nameB_inner (l : List Int) (k : Nat) (h : k < l.length) (he : endAt innerB l 0 = endAt innerB l k) (hi : innerB l[k] = false) : nameB l = false := by
  rw [endAt_stop h hi] at he
  unfold nameB
  rw [he]
  have : (k == l.length) = false := by simp; omega
  rw [this]; simp
theorem nameB_first (l : List Int) (h : 0 < l.length) (hi : smallB l[0] = false) : nameB l = false := by
  unfold nameB
  rw [at_get _ _ h, hi]; simp
theorem nameB_end (l : List Int) (he : endAt innerB l 0 = l.length) (hs : 0 < l.length → smallB (at_ l 0) = true) : nameB l = (decide (0 < l.length) && (decide (l.length ≤ 20) && !kwB l)) := by
  unfold nameB
  rw [he]
  rcases l with _ | ⟨a, l⟩
  · rfl
  · rw [hs (by simp)]; simp

set_option maxHeartbeats 1000000 in
theorem rName_any (s : ByteArray) (w : World) (hs : s.size ≤ maxLen) :
    Calls Try.prog 35 #[.string s] w fun e w' => e = .returned (.bool (nameB (bs s))) ∧ Below w.heap.size w w' := by
  unfold maxLen at hs
  go_enter Try.func35, Try.ntmps35
  go_wp2_with fail
  go_loop [3] (fun t => ∃ k : Nat, k ≤ s.size ∧ t = .int .i64 k ∧ endAt innerB (bs s) 0 = endAt innerB (bs s) k ∧ (0 < k → smallB (at_ (bs s) 0) = true)) (fun t => s.size - (intOf t).toNat)
  case atStart => exact ⟨0, Nat.zero_le _, rfl, rfl, fun h => absurd h (by omega)⟩
  case round =>
    obtain ⟨k, hk, rfl, he, hsm⟩ := hrel
    have He := Lib.hid he
    have Hsm := Lib.hid hsm
    clear he hsm
    by_cases hlt : k < s.size
    · have hg := bs_get s k hlt
      have hll : k < (bs s).length := by rw [bs_length]; exact hlt
      by_cases hin : innerB (s[k].toNat : Int) = true
      · have HE : Hid (endAt innerB (bs s) k = endAt innerB (bs s) (k + 1)) := endAt_go hll (by rw [hg]; exact hin)
        rcases k with _ | j
        · clear He
          by_cases hs0 : smallB (s[0].toNat : Int) = true
          · have H0 : Hid (smallB (at_ (bs s) 0) = true) := by
              show smallB (at_ (bs s) 0) = true
              rw [at_bs s 0 hlt]; exact hs0
            clear hg hll
            go_wp2_with (first | (go_at_call 52; refine (rInner_any _ _).mono ?_; rintro e w' ⟨rfl, rfl⟩) | (go_at_call 51; refine (rLetter_any _ _).mono ?_; rintro e w' ⟨rfl, rfl⟩))
            go_round
            case rel => exact ⟨1, by omega, by go_num, HE.out, fun _ => H0.out⟩
            case measure => simp [intOf]; omega
          · have hs0' : smallB (s[0].toNat : Int) = false := by simpa using hs0
            have HN : Hid (nameB (bs s) = false) := nameB_first _ hll (by rw [hg]; exact hs0')
            clear hg hll hs0
            go_wp2_with (first | (go_at_call 52; refine (rInner_any _ _).mono ?_; rintro e w' ⟨rfl, rfl⟩) | (go_at_call 51; refine (rLetter_any _ _).mono ?_; rintro e w' ⟨rfl, rfl⟩))
            go_ret
            exact ⟨ret_bool HN.out.symm, Below.refl _ _⟩
        · have hj0 : ((j : Int) + 1 == 0) = false := by simp; omega
          clear hg hll
          go_wp2_with (first | (go_at_call 52; refine (rInner_any _ _).mono ?_; rintro e w' ⟨rfl, rfl⟩) | (go_at_call 51; refine (rLetter_any _ _).mono ?_; rintro e w' ⟨rfl, rfl⟩))
          go_round
          case rel => exact ⟨j + 1 + 1, by omega, by go_num, He.out.trans HE.out, fun _ => Hsm.out (by omega)⟩
          case measure => simp [intOf]; omega
      · have hin' : innerB (s[k].toNat : Int) = false := by simpa using hin
        have HN : Hid (nameB (bs s) = false) := nameB_inner _ k hll He.out (by rw [hg]; exact hin')
        clear hg hll hin
        go_wp2_with (first | (go_at_call 52; refine (rInner_any _ _).mono ?_; rintro e w' ⟨rfl, rfl⟩) | (go_at_call 51; refine (rLetter_any _ _).mono ?_; rintro e w' ⟨rfl, rfl⟩))
        go_ret
        exact ⟨ret_bool HN.out.symm, Below.refl _ _⟩
    · have hke : k = s.size := by omega
      subst hke
      have hend : endAt innerB (bs s) 0 = (bs s).length := by rw [He.out, bs_length, endAt_end (by rw [bs_length]; omega)]
      have hN := nameB_end (bs s) hend (fun h => Hsm.out (by rw [bs_length] at h; exact h))
      rw [bs_length] at hN
      have HN := Lib.hid hN
      clear hend hN
      by_cases h1 : 0 < s.size
      · have h1' : (0 : Int) < (s.size : Int) := by omega
        by_cases h2 : s.size ≤ 20
        · have h2' : (s.size : Int) ≤ 20 := by omega
          go_wp2_with (go_at_call 33; refine (rKeyword_any _ _).mono ?_; rintro e w' ⟨rfl, hb⟩)
          go_ret
          exact ⟨ret_bool (by rw [HN.out]; simp [h1, h2]), hb⟩
        · have h2' : ¬ (s.size : Int) ≤ 20 := by omega
          go_wp2_with (go_at_call 33; refine (rKeyword_any _ _).mono ?_; rintro e w' ⟨rfl, hb⟩)
          go_ret
          exact ⟨ret_bool (by rw [HN.out]; simp [h2]), Below.refl _ _⟩
      · have h1' : ¬ (0 : Int) < (s.size : Int) := by omega
        go_wp2_with (go_at_call 33; refine (rKeyword_any _ _).mono ?_; rintro e w' ⟨rfl, hb⟩)
        go_ret
        exact ⟨ret_bool (by rw [HN.out]; simp [h1]), Below.refl _ _⟩
theorem joinS_snoc (xs : List ByteArray) (x : ByteArray) : joinS (xs ++ [x]) = if xs = [] then x else joinS xs ++ (⟨#[32]⟩ : ByteArray) ++ x := by
  have hj : ∀ (y : List UInt8) (ys : List (List UInt8)) (z : List UInt8), Lib.join ((y :: ys) ++ [z]) [32] = Lib.join (y :: ys) [32] ++ ([32] ++ z) := by
    intro y ys z
    rw [List.cons_append, Lib.join_cons, Lib.join_cons]
    simp [Lib.joinTail]
  cases xs with
  | nil =>
    rw [if_pos rfl]
    unfold joinS
    simp only [List.nil_append, List.map_cons, List.map_nil, Lib.join_one]
  | cons y r =>
    rw [if_neg (by simp)]
    apply bs_inj
    rw [bs_cat, bs_cat]
    unfold joinS
    rw [List.map_append, List.map_cons, List.map_cons, List.map_nil, hj]
    unfold bs
    simp
theorem joinS_nil : joinS [] = ⟨#[]⟩ := rfl

set_option maxHeartbeats 1000000 in
theorem rPrint_any (w : World) (v : Value) (ts : List TV) (h : RdT w v ts) (hb : ∀ t ∈ ts, t.2.1.size ≤ 100) (hl : ts.length ≤ 60) :
    Calls Try.prog 37 #[v] w fun e w' => e = .returned (.string (joinS (printed ts))) ∧ w = w' := by
  by_cases h0 : 0 < ts.length
  · obtain ⟨b, off, cap, rfl, hnc, hcm, hlt, hc⟩ := h.form h0
    have hcl := Lib.hid hc
    clear h hc
    go_enter Try.func37, Try.ntmps37
    go_wp2_with fail
    go_loop [3, 4, 5] (fun u g t => ∃ k : Nat, k ≤ ts.length ∧ t = .int .i64 k ∧ u = .string (joinS (printed (ts.take k))) ∧ g = .bool (printed (ts.take k)).isEmpty) (fun _ _ t => ts.length - (intOf t).toNat)
    case atStart => exact ⟨0, Nat.zero_le _, rfl, rfl, rfl⟩
    case round =>
      obtain ⟨k, hk, rfl, rfl, rfl⟩ := hrel
      by_cases hkl : k < ts.length
      · obtain ⟨e0, e1, _, _⟩ := hcl.out k hkl
        have hpt := printed_take ts k hkl
        have ht1 := hb ts[k] (List.getElem_mem hkl)
        have hsz : (joinS (printed (ts.take k))).size ≤ 1000000 := by
          apply joinS_size
          · intro x hx
            obtain ⟨t, ht, rfl⟩ := printed_mem _ x hx
            have := hb t (List.mem_of_mem_take ht)
            omega
          · have := printed_len (ts.take k)
            rw [List.length_take] at this
            omega
        obtain ⟨P0, hP0⟩ : ∃ P, P = printed (ts.take k) := ⟨_, rfl⟩
        obtain ⟨P1, hP1⟩ : ∃ P, P = printed (ts.take (k + 1)) := ⟨_, rfl⟩
        rw [← hP0, ← hP1] at hpt
        rw [← hP0] at hsz ⊢
        have HP1 := Lib.hid hP1
        clear hP0 hP1
        generalize ts[k] = t at *
        obtain ⟨t0, t1, t2, t3⟩ := t
        have ht1 : t1.size ≤ 100 := ht1
        by_cases hz : (t0 != 0) = true
        · rw [if_pos hz] at hpt
          have hz' : (t0 == 0) = false := by simpa using hz
          have hsn := joinS_snoc P0 t1
          by_cases hne : P0.isEmpty = true
          · have hPn : P0 = [] := List.isEmpty_iff.1 hne
            rw [if_pos hPn] at hsn
            have hA : joinS P0 = ⟨#[]⟩ := by rw [hPn]; rfl
            have hA2 : (⟨#[]⟩ : ByteArray) ++ t1 = t1 := by apply bs_inj; rw [bs_cat]; rfl
            have hr : joinS P1 = joinS P0 ++ t1 := by rw [hpt, hA, hA2]; exact hsn
            obtain ⟨A, hAA⟩ : ∃ A, A = joinS P0 := ⟨_, rfl⟩
            rw [← hAA] at hr hsz ⊢
            have hp1 : P1.isEmpty = false := by rw [hpt]; simp
            have Hr := Lib.hid hr
            have Hp1 := Lib.hid hp1
            clear hr hp1 hpt hsn hPn hA hA2 hAA
            go_wp2_with fail
            go_round
            case rel => exact ⟨k + 1, by omega, by go_num, by rw [← HP1.out, Hr.out], by rw [← HP1.out, Hp1.out]⟩
            case measure => simp [intOf]; omega
          · have hne' : P0.isEmpty = false := by simpa using hne
            rw [if_neg (by intro h; rw [h] at hne; simp at hne)] at hsn
            have hr : joinS P1 = joinS P0 ++ (⟨#[32]⟩ : ByteArray) ++ t1 := by rw [hpt]; exact hsn
            obtain ⟨A, hAA⟩ : ∃ A, A = joinS P0 := ⟨_, rfl⟩
            rw [← hAA] at hr hsz ⊢
            have hsz2 : (A ++ (⟨#[32]⟩ : ByteArray)).size ≤ 1000001 := by
              rw [← bs_length, bs_cat, List.length_append, bs_length]
              show A.size + 1 ≤ 1000001
              omega
            have hp1 : P1.isEmpty = false := by rw [hpt]; simp
            have Hr := Lib.hid hr
            have Hp1 := Lib.hid hp1
            clear hr hp1 hpt hsn hAA hne
            go_wp2_with fail
            go_round
            case rel => exact ⟨k + 1, by omega, by go_num, by rw [← HP1.out, Hr.out], by rw [← HP1.out, Hp1.out]⟩
            case measure => simp [intOf]; omega
        · rw [if_neg hz] at hpt
          have hz' : (t0 == 0) = true := by simpa using hz
          have Hpt := Lib.hid hpt
          clear hpt hz
          go_wp2_with fail
          go_round
          case rel => exact ⟨k + 1, by omega, by go_num, by rw [← HP1.out, Hpt.out], by rw [← HP1.out, Hpt.out]⟩
          case measure => simp [intOf]; omega
      · have hke : k = ts.length := by omega
        subst hke
        rw [List.take_length]
        go_wp2_with fail
        go_ret
        exact ⟨rfl, rfl⟩
  · have hnil : ts = [] := List.eq_nil_of_length_eq_zero (by omega)
    subst hnil
    obtain ⟨A, c, rfl⟩ : ∃ A c, v = .slice A 0 c := by
      rcases h.2 with ⟨h0, A, c, rfl⟩ | ⟨b, off, cap, rfl, _⟩
      · exact ⟨A, c, rfl⟩
      · exact ⟨_, _, rfl⟩
    clear h
    go_enter Try.func37, Try.ntmps37
    go_wp2_with fail
    refine wp_loop_rounds 1 ?_
    rw [rounds_succ]
    go_wp2_with fail
    go_ret
    exact ⟨rfl, rfl⟩
end Go.Proofs.Ytlifkfihpmkffaa
