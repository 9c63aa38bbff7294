/- Arguments that are lists of pairs of bytes, and lists of bytes, opened. -/
import Derived.Test.YtamieophdnnbnaaUnG
import Derived.ProofKit
import Derived.OpenShut
import Derived.Deep.Slices
namespace Go.Proofs.Ytamieophdnnbnaa.Un
open Go.RowKit Go.ChangeShapes Go.WideShapes Go.ChangeAt Go.Deep

theorem list_of {α : Type} (P : Nat → α → Prop) (n : Nat) (h : ∀ i, i < n → ∃ t, P i t) : ∃ ts : List α, ts.length = n ∧ ∀ i (hi : i < ts.length), P i ts[i] := by
  induction n with
  | zero => exact ⟨[], rfl, by simp⟩
  | succ n ih =>
    obtain ⟨ts, hl, hP⟩ := ih (fun i hi => h i (by omega))
    obtain ⟨t, ht⟩ := h n (by omega)
    refine ⟨ts ++ [t], by simp [hl], fun i hi => ?_⟩
    rcases Nat.lt_or_ge i ts.length with hlt | hge
    · rw [List.getElem_append_left hlt]; exact hP i hlt
    · have : i = ts.length := by simp at hi; omega
      subst this
      have e : (ts ++ [t])[ts.length] = t := by simp
      rw [e, hl]
      exact ht
/-- A slice of pairs of bytes. -/
def RdP (w : World) (v : Value) (l : List (Nat × Nat)) : Prop :=
  (∀ p ∈ l, p.1 < 256 ∧ p.2 < 256) ∧ ((l = [] ∧ ∃ A c, v = .slice A 0 c) ∨ ∃ b off cap, v = .slice (some ⟨b, off, none⟩) l.length cap ∧ l.length ≤ cap ∧ b < w.heap.size ∧
    ∀ i (hi : i < l.length), w.cell? ⟨b, off + i * 2, none⟩ = some (.int .u8 (l[i].1 : Nat)) ∧ w.cell? ⟨b, off + i * 2 + 1, none⟩ = some (.int .u8 (l[i].2 : Nat)))
def RdB (w : World) (v : Value) (l : List Nat) : Prop :=
  (∀ p ∈ l, p < 256) ∧ ((l = [] ∧ ∃ A c, v = .slice A 0 c) ∨ ∃ b off cap, v = .slice (some ⟨b, off, none⟩) l.length cap ∧ l.length ≤ cap ∧ b < w.heap.size ∧
    ∀ i (hi : i < l.length), w.cell? ⟨b, off + i, none⟩ = some (.int .u8 (l[i] : Nat)))
theorem RdP.below {w w' : World} {v : Value} {l : List (Nat × Nat)} (h : RdP w v l) (hb : Below w.heap.size w w') : RdP w' v l := by
  refine ⟨h.1, ?_⟩
  rcases h.2 with h2 | ⟨b, off, cap, hv, hc, hl, hx⟩
  · exact .inl h2
  · exact .inr ⟨b, off, cap, hv, hc, Nat.lt_of_lt_of_le hl hb.size, fun i hi => ⟨(hb.cell (p := ⟨b, _, none⟩) hl).trans (hx i hi).1, (hb.cell (p := ⟨b, _, none⟩) hl).trans (hx i hi).2⟩⟩
theorem RdB.below {w w' : World} {v : Value} {l : List Nat} (h : RdB w v l) (hb : Below w.heap.size w w') : RdB w' v l := by
  refine ⟨h.1, ?_⟩
  rcases h.2 with h2 | ⟨b, off, cap, hv, hc, hl, hx⟩
  · exact .inl h2
  · exact .inr ⟨b, off, cap, hv, hc, Nat.lt_of_lt_of_le hl hb.size, fun i hi => (hb.cell (p := ⟨b, _, none⟩) hl).trans (hx i hi)⟩
theorem RdP.slice {w : World} {v : Value} {l : List (Nat × Nat)} (h : RdP w v l) : ∃ A c, v = .slice A l.length c := by
  rcases h.2 with ⟨rfl, A, c, hv⟩ | ⟨b, off, cap, hv, _⟩
  · exact ⟨A, c, hv⟩
  · exact ⟨_, _, hv⟩
theorem RdB.slice {w : World} {v : Value} {l : List Nat} (h : RdB w v l) : ∃ A c, v = .slice A l.length c := by
  rcases h.2 with ⟨rfl, A, c, hv⟩ | ⟨b, off, cap, hv, _⟩
  · exact ⟨A, c, hv⟩
  · exact ⟨_, _, hv⟩
theorem RdP.at_ {w : World} {A : Option Addr} {n c : Nat} {l : List (Nat × Nat)} (h : RdP w (.slice A n c) l) {i : Nat} (hi : i < l.length) : ∃ b off, A = some ⟨b, off, none⟩ ∧ b < w.heap.size ∧ w.cell? ⟨b, off + i * 2, none⟩ = some (.int .u8 (l[i].1 : Nat)) ∧ w.cell? ⟨b, off + i * 2 + 1, none⟩ = some (.int .u8 (l[i].2 : Nat)) ∧ l[i].1 < 256 ∧ l[i].2 < 256 := by
  rcases h.2 with ⟨rfl, _⟩ | ⟨b, off, cap, hv, hc, hl, hx⟩
  · simp at hi
  · injection hv with h1 _ _
    exact ⟨b, off, h1, hl, (hx i hi).1, (hx i hi).2, (h.1 _ (List.getElem_mem hi)).1, (h.1 _ (List.getElem_mem hi)).2⟩
theorem RdB.at_ {w : World} {A : Option Addr} {n c : Nat} {l : List Nat} (h : RdB w (.slice A n c) l) {i : Nat} (hi : i < l.length) : ∃ b off, A = some ⟨b, off, none⟩ ∧ b < w.heap.size ∧ w.cell? ⟨b, off + i, none⟩ = some (.int .u8 (l[i] : Nat)) ∧ l[i] < 256 := by
  rcases h.2 with ⟨rfl, _⟩ | ⟨b, off, cap, hv, hc, hl, hx⟩
  · simp at hi
  · injection hv with h1 _ _
    exact ⟨b, off, h1, hl, hx i hi, h.1 _ (List.getElem_mem hi)⟩
def ArgP (w : World) (v : Value) : Prop := ∃ l, RdP w v l
def ArgB (w : World) (v : Value) : Prop := ∃ l, RdB w v l
theorem u8_wf {n : Int} (h : (Lit.int .u8 n).wf = true) : 0 ≤ n ∧ n < 256 := by
  have e1 : IntKind.u8.min = 0 := by decide
  have e2 : IntKind.u8.max = 255 := by decide
  simp only [Lit.wf, Bool.and_eq_true, decide_eq_true_eq] at h
  omega
set_option maxRecDepth 100000 in
theorem ArgP_open {H : Type} {enc : TypeId × Value → H} {W : World} {r : Reach} {b0 : Nat} {v : Value} {d : DataW H} {p : List MemPlace} (hval : Value.okWide Try.prog W r b0 44 v)
    (h : DataW.Trod enc Try.prog W 0 (fun _ => true) true 44 v d p) : ArgP W v := by
  obtain ⟨a0, len, cap, rfl⟩ := okWide_slice Try.underlying44 hval
  obtain ⟨fuel, hf⟩ := h
  rcases open_slice Try.underlying44 hf with ⟨hcs, _⟩ | ⟨a, len', cap', m, n, D, Pl, hcs, _, hl, hm, hmm, hx, hi⟩
  · simp [Value.cells] at hcs
    obtain ⟨rfl, rfl, rfl⟩ := hcs
    exact ⟨[], by simp, .inl ⟨rfl, _, _, rfl⟩⟩
  · simp [Value.cells] at hcs
    obtain ⟨rfl, rfl, rfl⟩ := hcs
    simp only [if_true] at hmm
    have hC : Try.prog.cellsOf 46 = 2 := by kernel_rfl
    have hI : Try.prog.cellsOf 5 = 1 := by kernel_rfl
    rw [hC] at hi
    have key : ∀ i, i < len → ∃ t : Nat × Nat, (t.1 < 256 ∧ t.2 < 256) ∧ W.cell? (a.add (i * 2)) = some (.int .u8 (t.1 : Nat)) ∧ W.cell? ((a.add (i * 2)).add 1) = some (.int .u8 (t.2 : Nat)) := by
      intro i hil
      obtain ⟨cs', hc, ht'⟩ := hi i (by omega)
      obtain ⟨ys, n', _, _, hlen, hyl, hfld⟩ := DataW.trod_array Try.underlying46 ht'
      rw [hC] at hlen
      obtain ⟨_, hcl, hat⟩ := World.cells?_some hc
      have q0 := hfld 0 (by omega)
      have q1 := hfld 1 (by omega)
      rw [hI, List.getElem?_eq_getElem (by omega)] at q0 q1
      obtain ⟨k0, hk0, _, w0⟩ := DataW.trod_int Try.underlying5 q0
      obtain ⟨k1, hk1, _, w1⟩ := DataW.trod_int Try.underlying5 q1
      have w0 := u8_wf w0
      have w1 := u8_wf w1
      match cs', hlen with
      | [c0, c1], _ =>
        simp at hk0 hk1
        subst hk0; subst hk1
        refine ⟨(k0.toNat, k1.toNat), ⟨by simp only; omega, by simp only; omega⟩, ?_, ?_⟩
        · have := hat 0 (by omega)
          rw [show ((k0.toNat : Nat) : Int) = k0 by omega]
          simpa [Addr.add] using this
        · rw [show ((k1.toNat : Nat) : Int) = k1 by omega]
          exact hat 1 (by omega)
    by_cases h0 : len = 0
    · subst h0
      exact ⟨[], by simp, .inl ⟨rfl, _, _, rfl⟩⟩
    · obtain ⟨b, off, spot⟩ := a
      obtain ⟨t0, _, hc0, _⟩ := key 0 (by omega)
      have hspot : spot = none := by simpa [Addr.add] using World.cell?_spot hc0
      subst hspot
      obtain ⟨ts, htl, hP⟩ := list_of _ len key
      refine ⟨ts, ?_, .inr ⟨b, off, cap, by rw [htl], by omega, ?_, ?_⟩⟩
      · intro p hp
        obtain ⟨i, hi', rfl⟩ := List.mem_iff_getElem.1 hp
        exact (hP i hi').1
      · have := hc0
        simp [Addr.add] at this
        unfold World.cell? at this
        split at this
        · rename_i hh
          exact (Array.getElem?_eq_some_iff.1 hh).1
        · cases this
      · intro i hi'
        have hP2 := hP i hi'
        simp only [Addr.add_lit] at hP2
        exact hP2.2
set_option maxRecDepth 100000 in
theorem ArgB_open {H : Type} {enc : TypeId × Value → H} {W : World} {r : Reach} {b0 : Nat} {v : Value} {d : DataW H} {p : List MemPlace} (hval : Value.okWide Try.prog W r b0 45 v)
    (h : DataW.Trod enc Try.prog W 0 (fun _ => true) true 45 v d p) : ArgB W v := by
  obtain ⟨a0, len, cap, rfl⟩ := okWide_slice Try.underlying45 hval
  obtain ⟨fuel, hf⟩ := h
  rcases open_slice Try.underlying45 hf with ⟨hcs, _⟩ | ⟨a, len', cap', m, n, D, Pl, hcs, _, hl, hm, hmm, hx, hi⟩
  · simp [Value.cells] at hcs
    obtain ⟨rfl, rfl, rfl⟩ := hcs
    exact ⟨[], by simp, .inl ⟨rfl, _, _, rfl⟩⟩
  · simp [Value.cells] at hcs
    obtain ⟨rfl, rfl, rfl⟩ := hcs
    simp only [if_true] at hmm
    have hI : Try.prog.cellsOf 5 = 1 := by kernel_rfl
    rw [hI] at hi
    have key : ∀ i, i < len → ∃ t : Nat, t < 256 ∧ W.cell? (a.add i) = some (.int .u8 (t : Nat)) := by
      intro i hil
      obtain ⟨cs', hc, ht'⟩ := hi i (by omega)
      obtain ⟨k0, hk0, _, w0⟩ := DataW.trod_int Try.underlying5 ht'
      have w0 := u8_wf w0
      obtain ⟨_, hcl, hat⟩ := World.cells?_some hc
      subst hk0
      refine ⟨k0.toNat, by omega, ?_⟩
      have := hat 0 (by simp)
      rw [show ((k0.toNat : Nat) : Int) = k0 by omega]
      simpa [Addr.add] using this
    by_cases h0 : len = 0
    · subst h0
      exact ⟨[], by simp, .inl ⟨rfl, _, _, rfl⟩⟩
    · obtain ⟨b, off, spot⟩ := a
      obtain ⟨t0, _, hc0⟩ := key 0 (by omega)
      have hspot : spot = none := by simpa [Addr.add] using World.cell?_spot hc0
      subst hspot
      obtain ⟨ts, htl, hP⟩ := list_of _ len key
      refine ⟨ts, ?_, .inr ⟨b, off, cap, by rw [htl], by omega, ?_, ?_⟩⟩
      · intro p hp
        obtain ⟨i, hi', rfl⟩ := List.mem_iff_getElem.1 hp
        exact (hP i hi').1
      · have := hc0
        simp [Addr.add] at this
        unfold World.cell? at this
        split at this
        · rename_i hh
          exact (Array.getElem?_eq_some_iff.1 hh).1
        · cases this
      · intro i hi'
        have hP2 := hP i hi'
        simp only [Addr.add_lit] at hP2
        exact hP2.2
end Go.Proofs.Ytamieophdnnbnaa.Un
