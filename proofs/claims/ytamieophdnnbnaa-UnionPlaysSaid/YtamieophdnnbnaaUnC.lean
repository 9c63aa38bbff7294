/- union: Join. -/
import Derived.Test.YtamieophdnnbnaaUnB
import Derived.BigRegion
import Derived.Deep.CutBlock
import Derived.Deep.DeepCutAuto
namespace Go.Proofs.Ytamieophdnnbnaa.Un
open Go.RowKit

theorem Ker.symm {n : Nat} {c d : Nat → Nat} (h : Ker n c d) : Ker n d c := fun i j hi hj => (h i j hi hj).symm
/-- What Join owes, where both are there. -/
def JoinPost (S : Nat → Prop) (w : World) (b n : Nat) (col : Nat → Nat) (steps : Int) (x y : Nat) (e : Ending) (w' : World) : Prop :=
  ∃ (r k : Nat) (ro : Nat → Nat), e = .returned (.tuple #[.int .i64 r, .bool (!(col x == col y))]) ∧ r < n ∧ (col r = col x ∨ col r = col y) ∧ k ≤ 2 * dg n ∧ UFo S w' b n (paint col x y) ro (steps + k) ∧ Else S w w'
/-- The stores of a join. -/
theorem join_fin {S : Nat → Prop} {w : World} {b n : Nat} {col ro : Nat → Nat} {steps : Int} {A Z X : Value} {par sz nx rk : Nat → Nat} {x y r o : Nat}
    (h2 : UFr n par sz col rk) (h3 : Rings n nx col) (h4 : n ≤ 1048576)
    (h5 : ∀ i, i < n → ro i < n ∧ par (ro i) = ro i ∧ col (ro i) = col i) (hr : r < n) (ho : o < n) (pr : par r = r) (po : par o = o) (hne : r ≠ o) (hs : sz o ≤ sz r)
    (hxy : (col r = col x ∧ col o = col y) ∨ (col r = col y ∧ col o = col x))
    (h1 : FM S w b n A Z X (upd par o r) (upd sz r (sz r + sz o)) (upd (upd nx r (nx o)) o (nx r)) ((cnt n col : Nat) - 1) steps) :
    UFo S w b n (paint col x y) (fun i => if paint col x y i = paint col x y r then r else ro i) steps := by
  have hcne : col r ≠ col o := fun e => hne (h2.root _ _ hr ho pr po e)
  have hj := h2.join hr ho pr po hne hs
  have hg := h3.join hr ho hcne
  have hct := cnt_paint hr ho hcne
  have hK : Ker n (paint col r o) (paint col x y) := (paint_ker hxy).symm
  refine ⟨A, Z, X, upd par o r, upd sz r (sz r + sz o), swp nx r o, upd rk r (max (rk r) (rk o + 1)), ?_, hj.ker hK, hg.ker hK, h4, ?_⟩
  · have e : ((cnt n (paint col x y) : Nat) : Int) = (cnt n col : Nat) - 1 := by rw [← hK.cnt]; omega
    rw [e]
    exact h1
  · intro i hi
    have prr : upd par o r r = r := by rw [upd_other _ _ hne]; exact pr
    by_cases e : paint col x y i = paint col x y r
    · simp only [if_pos e]
      exact ⟨hr, prr, e.symm⟩
    · simp only [if_neg e]
      obtain ⟨g1, g2, g3⟩ := h5 i hi
      have hio : ro i ≠ o := fun eo => e (by
        rw [paint_eq]
        rw [eo] at g3
        rcases hxy with ⟨q1, q2⟩ | ⟨q1, q2⟩
        · exact .inr ⟨.inr (g3.symm.trans q2), .inl q1⟩
        · exact .inr ⟨.inl (g3.symm.trans q2), .inr q1⟩)
      refine ⟨g1, by rw [upd_other _ _ hio]; exact g2, ?_⟩
      rw [paint_eq]; exact .inl g3
theorem Else.drew {S : Nat → Prop} {a w : World} (h : Else S a w) : Else S a w.drew := ⟨h.os, h.tape, h.output, h.size, h.block⟩
theorem FM.drew {S : Nat → Prop} {w : World} {b n : Nat} {A Z X : Value} {par sz nx : Nat → Nat} {sets steps : Int} (h : FM S w b n A Z X par sz nx sets steps) : FM S w.drew b n A Z X par sz nx sets steps :=
  ⟨h.blk, h.sb, h.ra, h.rz, h.rx, h.sa, h.sz_, h.sx⟩
theorem wp_world {P : Program} {c : Code} {Q : Exit → Act → World → Prop} {a : Act} {W : World} (R : World → Prop) (h : R W) (k : ∀ Z, R Z → Code.wp P c Q a Z) : Code.wp P c Q a W := k W h
/-- A search, the forest laid open. -/
theorem search_ex {S : Nat → Prop} {w : World} {b n : Nat} {A Z X : Value} {par sz nx col rk ro : Nat → Nat} {sets steps : Int} (h : FM S w b n A Z X par sz nx sets steps) (u : UFr n par sz col rk) (hn : n ≤ 1048576) (hst : 0 ≤ steps ∧ steps ≤ 1000000000000000)
    (h5 : ∀ i, i < n → ro i < n ∧ par (ro i) = ro i ∧ col (ro i) = col i) (i : Nat) (hi : i < n) :
    Calls Try.prog 28 #[.pointer (some ⟨b, 0, none⟩), .int .i64 i] w fun e w' => ∃ (par' : Nat → Nat) (k : Nat), e = .returned (.int .i64 (ro i : Nat)) ∧ k ≤ dg n ∧ FM S w' b n A Z X par' sz nx sets (steps + k) ∧ UFr n par' sz col rk ∧
      (∀ i, i < n → ro i < n ∧ par' (ro i) = ro i ∧ col (ro i) = col i) ∧ Else S w w' := by
  refine (search_any h u hn hst i hi).mono ?_
  rintro e w2 ⟨par', r, k, rfl, hr, pr, hc, hroots, u', h', hk, he⟩
  obtain ⟨g1, g2, g3⟩ := h5 i hi
  have hro : r = ro i := u'.root r (ro i) hr g1 pr ((hroots _ g1).2 g2) (hc.trans g3.symm)
  subst hro
  exact ⟨par', k, rfl, dg_of (by omega) hk, h', u', fun j hj => ⟨(h5 j hj).1, (hroots _ (h5 j hj).1).2 (h5 j hj).2.1, (h5 j hj).2.2⟩, he⟩
set_option maxRecDepth 100000 in
set_option maxHeartbeats 1000000 in
theorem join_eq {S : Nat → Prop} {w : World} {b n : Nat} {A Z X : Value} {par sz nx col rk ro : Nat → Nat} {steps : Int} (h1 : FM S w b n A Z X par sz nx (cnt n col : Nat) steps) (h2 : UFr n par sz col rk) (h3 : Rings n nx col) (hn : n ≤ 1048576)
    (h5 : ∀ i, i < n → ro i < n ∧ par (ro i) = ro i ∧ col (ro i) = col i) (hst : 0 ≤ steps ∧ steps ≤ 10000000000000) (x y : Nat) (hx : x < n) (hy : y < n) (hro : ro x = ro y) :
    Calls Try.prog 12 #[.pointer (some ⟨b, 0, none⟩), .int .i64 x, .int .i64 y] w (JoinPost S w b n col steps x y) := by
  have hdg := dg_le hn
  have HH := has_any h1 (x : Int)
  rw [decide_eq_true (show (0 : Int) ≤ (x : Int) ∧ (x : Int) < (n : Int) by omega)] at HH
  have HJ := has_any h1 (y : Int)
  rw [decide_eq_true (show (0 : Int) ≤ (y : Int) ∧ (y : Int) < (n : Int) by omega)] at HJ
  have HS := search_ex h1 h2 hn (by omega) h5 x hx
  clear h1 h2 h5
  have HRO := Lib.hid hro
  clear hro
  go_enter Try.func12, Try.ntmps12
  go_wp2_with fail
  refine HH.mono ?_
  rintro e w' ⟨rfl, rfl⟩
  go_wp2_with fail
  refine HJ.mono ?_
  rintro e w' ⟨rfl, rfl⟩
  go_wp2_with fail
  refine HS.mono ?_
  rintro e w2 ⟨par1, k1, rfl, hk1, h1, h2, h5, he1⟩
  have HT := search_ex h1 h2 hn (by omega) h5 y hy
  clear h1 h2 h5
  have HF := Lib.hid (And.intro hk1 he1)
  clear hk1 he1
  go_wp2_with fail
  refine HT.mono ?_
  rintro e w3 ⟨par, k2, rfl, hk2, h1, h2, h5, he2⟩
  clear HH HJ HS HT
  obtain ⟨a1, a2, a3⟩ := h5 x hx
  obtain ⟨b1, b2, b3⟩ := h5 y hy
  have hE : Else S w' w3 := HF.out.2.trans he2
  have hkk : k1 + k2 ≤ 2 * dg n := by have := HF.out.1; omega
  have HX := Lib.hid (And.intro hE (And.intro hkk (And.intro a3 b3)))
  obtain ⟨r, hr⟩ : ∃ r, ro x = r := ⟨_, rfl⟩
  obtain ⟨o, ho⟩ : ∃ o, ro y = o := ⟨_, rfl⟩
  rw [hr] at a1 a2 a3
  rw [ho] at b1 b2 b3
  have hro := HRO.out
  rw [hr, ho] at hro
  have HXR := Lib.hid (And.intro hr ho)
  rw [hr, ho]
  clear hr ho
  subst hro
  have hce : col x = col y := a3.symm.trans b3
  have HFIN := Lib.hid (And.intro hce (⟨A, Z, X, par, sz, nx, rk, h1, h2, h3, hn, h5⟩ : UFo S w3 b n col ro (steps + k1 + k2)))
  clear h1 h2 h3 h5 a2 a3 b2 b3 hce hE hkk hk2 he2
  go_wp2_with fail
  go_ret2
  obtain ⟨hce, hU⟩ := HFIN.out
  refine ⟨r, k1 + k2, ro, ?_, a1, .inl ?_, HX.out.2.1, ?_, HX.out.1⟩
  · have : (col x == col y) = true := by rw [beq_iff_eq]; exact hce
    rw [this]; rfl
  · rw [← HXR.out.1]; exact HX.out.2.2.1
  · rw [paint_same hce, show steps + ((k1 + k2 : Nat) : Int) = steps + k1 + k2 by omega]; exact hU
end Go.Proofs.Ytamieophdnnbnaa.Un
