/- The walk of the law LexNames, out of the contracts of what it calls. -/
import Derived.Test.YtlifkfihpmkffaaLexV
namespace Go.Proofs.Ytlifkfihpmkffaa
open Go.RowKit

theorem RdT.slice {w : World} {v : Value} {ts : List TV} (h : RdT w v ts) : ∃ A c, v = .slice A ts.length c := by
  rcases h.2 with ⟨h0, A, c, rfl⟩ | ⟨b, off, cap, rfl, _⟩
  · exact ⟨A, c, by rw [h0]⟩
  · exact ⟨_, _, rfl⟩

set_option maxHeartbeats 4000000 in
set_option maxRecDepth 100000 in
/-- Behind the guards: whatever the tokens, where all texts are short. -/
theorem lexNames_walk (w : World) (s : ByteArray) (hs : s.size ≤ maxLen) (v : Value) (hv : ArgT w v) :
    Calls Try.prog 9 #[.string s, v] w fun e w' => e = .returned (.bool true) ∧ Below w.heap.size w w' := by
  obtain ⟨ts, h⟩ := hv
  obtain ⟨A, c, rfl⟩ := h.slice
  by_cases hbig : s.size ≤ 100 ∧ ts.length ≤ 60
  · obtain ⟨k1, k2⟩ := hbig
    have i1 : ¬ (100 : Int) < (s.size : Int) := by omega
    have i2 : ¬ (60 : Int) < (ts.length : Int) := by omega
    have H := Lib.hid h
    have Hs := Lib.hid hs
    clear h hs
    go_enter Try.func9, Try.ntmps9
    go_wp2_with fail
    go_loop [5] (fun t => ∃ k : Nat, k ≤ ts.length ∧ t = .int .i64 k ∧ ∀ j (hj : j < ts.length), j < k → ts[j].2.1.size ≤ 100) (fun t => ts.length - (intOf t).toNat)
    case atStart => exact ⟨0, Nat.zero_le _, rfl, fun j hj hk => absurd hk (by omega)⟩
    case round =>
      obtain ⟨k, hk, rfl, hall⟩ := hrel
      have Hall := Lib.hid hall
      clear hall
      by_cases hkl : k < ts.length
      · obtain ⟨b, off, cap, hv, _, _, hlt, hc⟩ := H.out.form (by omega)
        injection hv with hA _ hcc
        subst hA; subst hcc
        have e1 := (hc k hkl).2.1
        clear hc
        obtain ⟨t, ht⟩ : ∃ t, t = ts[k].2.1 := ⟨_, rfl⟩
        rw [← ht] at e1
        have Ht := Lib.hid ht
        clear ht
        by_cases h100 : t.size ≤ 100
        · have i3 : ¬ (100 : Int) < (t.size : Int) := by omega
          go_wp2_with fail
          go_round
          case rel =>
            refine ⟨k + 1, by omega, by go_num, fun j hj hjk => ?_⟩
            rcases Nat.lt_or_ge j k with h | h
            · exact Hall.out j hj h
            · have : j = k := by omega
              subst this
              rw [← Ht.out]; exact h100
          case measure => simp [intOf]; omega
        · have i3 : (100 : Int) < (t.size : Int) := by omega
          go_wp2_with (go_at_call 28; refine (awake2 _).mono ?_; rintro e w' ⟨rfl, hb⟩)
          go_ret
          exact ⟨rfl, hb⟩
      · have hb100 : Hid (∀ t ∈ ts, t.2.1.size ≤ 100) := by
          intro t ht
          obtain ⟨j, hj, rfl⟩ := List.getElem_of_mem ht
          exact Hall.out j hj (by omega)
        have hb2 : Hid (∀ t ∈ ts, t.2.1.size ≤ 100000) := fun t ht => Nat.le_trans (hb100.out t ht) (by omega)
        clear Hall
        go_wp2_with fail
        refine (keyword_any _ _).mono ?_
        rintro e w' ⟨rfl, rfl⟩
        go_wp2_with fail
        refine (rKeyword_any _ _).mono ?_
        rintro e w1 ⟨rfl, b1⟩
        go_wp2_with fail
        refine (name_any _ _ Hs.out).mono ?_
        rintro e w' ⟨rfl, rfl⟩
        go_wp2_with fail
        refine (rName_any _ _ Hs.out).mono ?_
        rintro e w2 ⟨rfl, b2⟩
        have h2 : Hid (RdT w2 (.slice A ts.length c) ts) := (Rd.below (Rd.below H.out b1) b2)
        go_wp2_with fail
        refine (print_any w2 _ ts h2.out hb2.out (by omega)).mono ?_
        rintro e w3 ⟨rfl, b3⟩
        have h3 : Hid (RdT w3 (.slice A ts.length c) ts) := Rd.below h2.out b3
        go_wp2_with fail
        refine (rPrint_any w3 _ ts h3.out hb100.out (by omega)).mono ?_
        rintro e w' ⟨rfl, rfl⟩
        obtain ⟨J, hJ⟩ : ∃ J, J = joinS (printed ts) := ⟨_, rfl⟩
        rw [← hJ]
        clear hJ
        go_wp2_with (go_at_call 28; refine (awake2 _).mono ?_; rintro e w' ⟨rfl, b4⟩)
        go_ret
        have s1 := b1.size
        have s2 := b2.size
        have s3 := b3.size
        exact ⟨rfl, b1.trans ((b2.mono s1).trans ((b3.mono (by omega)).trans (b4.mono (by omega))))⟩
  · have hor : (100 : Int) < (s.size : Int) ∨ (¬ (100 : Int) < (s.size : Int) ∧ (60 : Int) < (ts.length : Int)) := by omega
    clear hbig h
    rcases hor with h | ⟨h, h'⟩
    all_goals
      go_enter Try.func9, Try.ntmps9
      go_wp2_with (go_at_call 28; refine (awake2 _).mono ?_; rintro e w' ⟨rfl, hb⟩)
      go_ret
      exact ⟨rfl, hb⟩
end Go.Proofs.Ytlifkfihpmkffaa
