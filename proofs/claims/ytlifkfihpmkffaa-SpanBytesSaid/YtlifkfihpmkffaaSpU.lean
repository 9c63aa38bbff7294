/- An argument that is a slice of spans, opened. -/
import Derived.Test.YtlifkfihpmkffaaSpA
import Derived.ProofKit
import Derived.OpenShut
import Derived.Deep.Slices
namespace Go.Proofs.Ytlifkfihpmkffaa
open Go.RowKit Go.ChangeShapes Go.WideShapes Go.ChangeAt Go.Deep

theorem slist_of {α : Type} (P : Nat → α → Prop) (n : Nat) (h : ∀ i, i < n → ∃ t, P i t) : ∃ ts : List α, ts.length = n ∧ ∀ i (hi : i < ts.length), P i ts[i] := by
  induction n with
  | zero => exact ⟨[], rfl, by simp⟩
  | succ n ih =>
    obtain ⟨ts, hl, hP⟩ := ih (fun i hi => h i (by omega))
    obtain ⟨t, ht⟩ := h n (by omega)
    refine ⟨ts ++ [t], by simp [hl], fun i hi => ?_⟩
    rcases Nat.lt_or_ge i ts.length with hlt | hge
    · rw [List.getElem_append_left hlt]; exact hP i hlt
    · have : i = ts.length := by simp at hi; omega
      subst this
      have e : (ts ++ [t])[ts.length] = t := by simp
      rw [e, hl]
      exact ht
/-- What is known of an argument that is a slice of spans. -/
def ArgS (w : World) (v : Value) : Prop := ∃ l : List Sp, RdS w v l
set_option maxRecDepth 100000 in
theorem ArgS_open {H : Type} {enc : TypeId × Value → H} {W : World} {r : Reach} {b0 : Nat} {v : Value} {d : DataW H} {p : List MemPlace} (hval : Value.okWide Try.prog W r b0 22 v)
    (h : DataW.Trod enc Try.prog W 0 (fun _ => true) true 22 v d p) : ArgS W v := by
  obtain ⟨a0, len, cap, rfl⟩ := okWide_slice Try.underlying22 hval
  obtain ⟨fuel, hf⟩ := h
  rcases open_slice Try.underlying22 hf with ⟨hcs, _⟩ | ⟨a, len', cap', m, n, D, Pl, hcs, _, hl, hm, hmm, hx, hi⟩
  · simp [Value.cells] at hcs
    obtain ⟨rfl, rfl, rfl⟩ := hcs
    exact ⟨[], rfl, .inl ⟨rfl, _, _, rfl⟩⟩
  · simp [Value.cells] at hcs
    obtain ⟨rfl, rfl, rfl⟩ := hcs
    simp only [if_true] at hmm
    have hC : Try.prog.cellsOf 25 = 2 := by kernel_rfl
    have hI : Try.prog.cellsOf 3 = 1 := by kernel_rfl
    rw [hC] at hi
    have key : ∀ i, i < len → ∃ t : Sp, W.cell? (a.add (i * 2)) = some (.int .i64 t.1) ∧ W.cell? ((a.add (i * 2)).add 1) = some (.int .i64 t.2) := by
      intro i hil
      obtain ⟨cs', hc, ht'⟩ := hi i (by omega)
      obtain ⟨ys, n', _, _, hlen, hyl, hfld⟩ := DataW.trod_struct Try.underlying25 ht'
      rw [hC] at hlen
      obtain ⟨_, hcl, hat⟩ := World.cells?_some hc
      have q0 : DataW.trod enc Try.prog W 0 (fun _ => true) true n' 3 ((cs'.drop 0).take (Try.prog.cellsOf 3)) = ys[0]? := hfld 0 _ rfl
      have q1 : DataW.trod enc Try.prog W 0 (fun _ => true) true n' 3 ((cs'.drop 1).take (Try.prog.cellsOf 3)) = ys[1]? := hfld 1 _ rfl
      have hyl' : ys.length = 2 := hyl
      rw [hI, List.getElem?_eq_getElem (by omega)] at q0 q1
      obtain ⟨k0, hk0, _, _⟩ := DataW.trod_int Try.underlying3 q0
      obtain ⟨k1, hk1, _, _⟩ := DataW.trod_int Try.underlying3 q1
      match cs', hlen with
      | [c0, c1], _ =>
        simp at hk0 hk1
        subst hk0; subst hk1
        refine ⟨(k0, k1), ?_, ?_⟩
        · have := hat 0 (by omega)
          simpa [Addr.add] using this
        · exact hat 1 (by omega)
    by_cases h0 : len = 0
    · subst h0
      exact ⟨[], rfl, .inl ⟨rfl, _, _, rfl⟩⟩
    · obtain ⟨b, off, spot⟩ := a
      obtain ⟨t0, hc0, _⟩ := key 0 (by omega)
      have hspot : spot = none := by simpa [Addr.add] using World.cell?_spot hc0
      subst hspot
      obtain ⟨ts, htl, hP⟩ := slist_of _ len key
      refine ⟨ts, spCells_length ts, .inr ⟨b, off, cap, by rw [htl], by omega, hm, ?_, ?_⟩⟩
      · have := hc0
        simp [Addr.add] at this
        unfold World.cell? at this
        split at this
        · rename_i hh
          exact (Array.getElem?_eq_some_iff.1 hh).1
        · cases this
      · intro j u hj
        have hjl := (List.getElem?_eq_some_iff.1 hj).1
        rw [spCells_length] at hjl
        obtain ⟨i, q, rfl, hq⟩ : ∃ i q, j = i * 2 + q ∧ q < 2 := ⟨j / 2, j % 2, by omega, by omega⟩
        have hi4 : i < ts.length := by omega
        have hP2 := hP i hi4
        simp only [Addr.add_lit] at hP2
        have hfl := flat2 ts i q hi4 hq
        rw [hj] at hfl
        rw [← Nat.add_assoc]
        have hcase : q = 0 ∨ q = 1 := by omega
        rcases hcase with rfl | rfl
        all_goals
          simp [enc2] at hfl
          subst hfl
        · exact hP2.1
        · exact hP2.2
end Go.Proofs.Ytlifkfihpmkffaa
