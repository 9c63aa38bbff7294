/- union's laws: the example. -/
import Derived.Test.YtamieophdnnbnaaUnF
namespace Go.Proofs.Ytamieophdnnbnaa.Un
open Go.RowKit

theorem sets_uf {S : Nat → Prop} {w : World} {b n : Nat} {col ro : Nat → Nat} {steps : Int} (h : UFo S w b n col ro steps) :
    Calls Try.prog 22 #[.pointer (some ⟨b, 0, none⟩)] w fun e w' => e = .returned (.int .i64 (cnt n col : Nat)) ∧ w' = w := by
  obtain ⟨A, Z, X, par, sz, nx, rk, h1, _⟩ := h
  exact sets_any h1
theorem len_uf {S : Nat → Prop} {w : World} {b n : Nat} {col ro : Nat → Nat} {steps : Int} (h : UFo S w b n col ro steps) :
    Calls Try.prog 21 #[.pointer (some ⟨b, 0, none⟩)] w fun e w' => e = .returned (.int .i64 (n : Nat)) ∧ w' = w := by
  obtain ⟨A, Z, X, par, sz, nx, rk, h1, _⟩ := h
  exact len_any h1
theorem steps_uf {S : Nat → Prop} {w : World} {b n : Nat} {col ro : Nat → Nat} {steps : Int} (h : UFo S w b n col ro steps) :
    Calls Try.prog 24 #[.pointer (some ⟨b, 0, none⟩)] w fun e w' => e = .returned (.int .i64 steps) ∧ w' = w := by
  obtain ⟨A, Z, X, par, sz, nx, rk, h1, _⟩ := h
  exact steps_any h1
theorem UFo.few {S : Nat → Prop} {w : World} {b n : Nat} {col ro : Nat → Nat} {steps : Int} (h : UFo S w b n col ro steps) : n ≤ 1048576 := by
  obtain ⟨_, _, _, _, _, _, _, _, _, _, hn, _⟩ := h; exact hn
set_option maxRecDepth 100000 in
set_option maxHeartbeats 1000000 in
theorem awake_any (w : World) : Calls Try.prog 8 #[] w fun e w' => e = .returned (.bool true) ∧ Below w.heap.size w w' := by
  have HN := new_in w 3 (by omega)
  go_enter Try.func8, Try.ntmps8
  go_wp2_with fail
  refine HN.mono ?_
  rintro e w1 ⟨rfl, hU, hB⟩
  have HJ := join_in hU (by omega) 0 2 (by omega) (by omega)
  have H1 := Lib.hid hB
  have HR := Lib.hid hB.size
  clear hU hB HN
  go_wp2_with fail
  refine HJ.mono ?_
  rintro e w2 ⟨r, k, ro, rfl, hr, hrc, hk, hU, hE⟩
  have hd : dg 3 = 2 := by decide
  rw [hd] at hk
  have hB2 : Below w.heap.size w w2 := H1.out.trans (hE.below (fun k hk => hk.1) HR.out)
  have HS := same_in hU (by omega) 2 0 (by omega) (by omega)
  have H2 := Lib.hid hB2
  clear hU hE hB2 hrc HJ
  go_wp2_with fail
  refine HS.mono ?_
  rintro e w3 ⟨k2, rfl, hk2, hU, hE⟩
  rw [hd] at hk2
  have hB3 : Below w.heap.size w w3 := H2.out.trans (hE.below (fun k hk => hk.1) H2.out.size)
  have HS := same_in hU (by omega) 0 1 (by omega) (by omega)
  have H3 := Lib.hid hB3
  have e1 : (paint (fun j => j) 0 2 2 == paint (fun j => j) 0 2 0) = true := by decide
  have e2 : (paint (fun j => j) 0 2 0 == paint (fun j => j) 0 2 1) = false := by decide
  have e3 : cnt 3 (paint (fun j => j) 0 2) = 2 := by decide
  rw [e1]
  rw [e2] at HS
  clear hU hE hB3 e1 e2
  go_wp2_with fail
  refine HS.mono ?_
  rintro e w4 ⟨k3, rfl, hk3, hU, hE⟩
  have hB4 : Below w.heap.size w w4 := H3.out.trans (hE.below (fun k hk => hk.1) H3.out.size)
  have HT := sets_uf hU
  rw [e3] at HT
  have H4 := Lib.hid hB4
  clear hU hE hB4 HS e3
  go_wp2_with fail
  refine HT.mono ?_
  rintro e w5 ⟨rfl, rfl⟩
  go_wp2_with fail
  go_ret
  exact ⟨rfl, H4.out⟩
end Go.Proofs.Ytamieophdnnbnaa.Un
