/- union: Set. -/
import Derived.Test.YtamieophdnnbnaaUnV
import Derived.Test.YtamieophdnnbnaaShSo
import Derived.Sort.Row
import Derived.Sort.Grow
namespace Go.Proofs.Ytamieophdnnbnaa.Un
open Go.RowKit Go.Sort

/-- The elements of a set, rising. -/
def mem_ (n : Nat) (col : Nat → Nat) (i : Nat) : List Nat := (List.range n).filter fun k => col k == col i
theorem mem_iff {n : Nat} {col : Nat → Nat} {i k : Nat} : k ∈ mem_ n col i ↔ k < n ∧ col k = col i := by
  unfold mem_; rw [List.mem_filter, List.mem_range, beq_iff_eq]
theorem mem_len (n : Nat) (col : Nat → Nat) (i : Nat) : (mem_ n col i).length ≤ n := by
  have := List.length_filter_le (fun k => col k == col i) (List.range n)
  simpa [mem_] using this
theorem ring_perm {n : Nat} {nx col : Nat → Nat} {i : Nat} {L : List Nat} (h : Ring n nx col i L) : L.Perm (mem_ n col i) := by
  refine (List.perm_ext_iff_of_nodup h.2.2.1 (List.Pairwise.filter _ List.nodup_range)).2 fun a => ?_
  exact (h.2.2.2 a).trans mem_iff.symm
theorem sorted_is {n : Nat} {col : Nat → Nat} {i : Nat} {l : List Nat} (hp : l.Perm (mem_ n col i)) (hs : l.Pairwise (· ≤ ·)) : l = mem_ n col i := by
  refine List.Perm.eq_of_pairwise (le := fun a b => a ≤ b) (fun a b _ _ h1 h2 => Nat.le_antisymm h1 h2) hs ?_ hp
  exact (List.pairwise_lt_range.filter _).imp fun h => Nat.le_of_lt h
theorem sort_row (w : World) (B g cap : Nat) (l : List Nat) (hown : w.ownsRow B 3 1 (.slice (some ⟨g, 0, none⟩) l.length cap) l.length (rowL l)) (hl : l.length ≤ 1048576) :
    Calls Try.prog 31 #[.slice (some ⟨g, 0, none⟩) l.length cap] w fun e w' => e = .returned (.tuple #[]) ∧ ∃ l' : List Nat, l'.Perm l ∧ l'.Pairwise (· ≤ ·) ∧ Rd w' 1 (.slice (some ⟨g, 0, none⟩) l.length cap) l.length (rowL l') ∧ Else (fun k => k = g) w w' := by
  obtain ⟨z, hz⟩ : ∃ z : List Int, z = l.map fun (k : Nat) => (k : Int) := ⟨_, rfl⟩
  have hzl : z.length = l.length := by rw [hz, List.length_map]
  obtain ⟨hgl, hcap, hcm⟩ : g < w.heap.size ∧ l.length ≤ cap ∧ cap ≤ maxLen := by
    rcases hown.2 with ⟨h, _⟩ | ⟨g', cap', cur, hv, _, hh, h1, h2, _⟩
    · cases h
    · injection hv with hv _ hc
      injection hv with hv
      injection hv with hv
      subst hv; subst hc
      exact ⟨(Array.getElem?_eq_some_iff.1 hh).1, h1, h2⟩
  have hcell : ∀ j, (hj : j < l.length) → w.cell? ⟨g, j, none⟩ = some (.int .i64 (l[j] : Nat)) := by
    intro j hj
    rw [hown.cellAt j (by omega)]
    simp [rowL, hj]
  have hH : Holds (Value.int .i64) w g 0 z.toArray := by
    intro j hj
    have hj' : j < l.length := by rw [← hzl]; simpa using hj
    refine ⟨?_, ?_⟩
    · rw [Nat.zero_add, hcell j hj']
      congr 2
      rw [getElem!_pos z.toArray j hj]
      simp [hz]
    · rw [Nat.zero_add]; exact hown.frozenAt j
  have hc := Try.slices_Sort_int g 0 cap z w hH hgl (by omega)
  rw [hzl] at hc
  refine hc.mono ?_
  rintro e w' ⟨rfl, n, os, rfl⟩
  have hperm : (z.mergeSort fun x y => decide (x ≤ y)).Perm z := List.mergeSort_perm _ _
  have hpw : (z.mergeSort fun x y => decide (x ≤ y)).Pairwise (fun a b => decide (a ≤ b) = true) := List.pairwise_mergeSort (fun a b c h1 h2 => by simp at h1 h2 ⊢; omega) (fun a b => by simp; omega) _
  generalize (z.mergeSort fun x y => decide (x ≤ y)) = z' at *
  have hz'l : z'.length = l.length := by rw [hperm.length_eq, hzl]
  have hnn : ∀ x ∈ z', ∃ k : Nat, x = (k : Int) := by
    intro x hx
    have := hperm.mem_iff.1 hx
    rw [hz] at this
    obtain ⟨k, _, rfl⟩ := List.mem_map.1 this
    exact ⟨k, rfl⟩
  have hzz : z' = (z'.map Int.toNat).map fun (k : Nat) => (k : Int) := by
    rw [List.map_map]
    conv => lhs; rw [← List.map_id z']
    apply List.map_congr_left
    intro x hx
    obtain ⟨k, rfl⟩ := hnn x hx
    rfl
  refine ⟨rfl, z'.map Int.toNat, ?_, ?_, ?_, ?_⟩
  · have := hperm.map Int.toNat
    rw [hz, List.map_map] at this
    have e : (Int.toNat ∘ fun (k : Nat) => (k : Int)) = id := by funext k; simp
    rw [e, List.map_id] at this
    exact this
  · rw [List.pairwise_map]
    refine hpw.imp_of_mem fun {a b} ha hb h => ?_
    have h : a ≤ b := by simpa using h
    omega
  · refine ⟨by rw [rowL_len, List.length_map, hz'l]; omega, .inr ⟨g, 0, cap, rfl, hcap, hcm, by simp [grow]; omega, fun j u hu => ?_⟩⟩
    have hj : j < z'.length := by have := (List.getElem?_eq_some_iff.1 hu).1; rwa [rowL_len, List.length_map] at this
    have hcp := cell?_putRow (Value.int .i64) (Sort.ahead w n) g 0 z.toArray z'.toArray (holds_ahead _ _ _ _ _ _ hH) (by simp; omega) j (by simpa using hj)
    rw [Nat.zero_add] at hcp ⊢
    have hgrow : (grow (putRow (Value.int .i64) (Sort.ahead w n) g 0 z'.toArray) os).cell? ⟨g, j, none⟩ = (putRow (Value.int .i64) (Sort.ahead w n) g 0 z'.toArray).cell? ⟨g, j, none⟩ := World.cell?_of_block (heap_grow_old _ _ (by simp; omega))
    rw [hgrow, hcp, ← hu]
    rw [getElem!_pos z'.toArray j (by simpa using hj)]
    obtain ⟨k, hk⟩ := hnn z'[j] (List.getElem_mem hj)
    simp [rowL, hj, hk]
  · refine ⟨rfl, rfl, rfl, by simp [grow], fun k hk hne => ?_⟩
    rw [heap_grow_old _ _ (by simp; omega)]
    show ((Sort.ahead w n).heap.modify g _)[k]? = _
    rw [Array.getElem?_modify, if_neg (by simpa using Ne.symm hne)]
    rfl
/-- What Set owes. -/
def SetPost (S : Nat → Prop) (w : World) (b n : Nat) (col ro : Nat → Nat) (steps : Int) (i : Nat) (e : Ending) (w' : World) : Prop :=
  ∃ (v : Value), e = .returned v ∧ Rd w' 1 v (mem_ n col i).length (rowL (mem_ n col i)) ∧ (∃ k : Nat, k ≤ n ∧ UFo S w' b n col ro (steps + k)) ∧ Else S w w'
set_option maxRecDepth 100000 in
set_option maxHeartbeats 1000000 in
theorem set_in {S : Nat → Prop} {w : World} {b n : Nat} {col ro : Nat → Nat} {steps : Int} (h : UFo S w b n col ro steps) (hst : 0 ≤ steps ∧ steps ≤ 10000000000000) (i : Nat) (hi : i < n) :
    Calls Try.prog 18 #[.pointer (some ⟨b, 0, none⟩), .int .i64 (i : Nat)] w (SetPost S w b n col ro steps i) := by
  obtain ⟨A, Z, X, par, sz, nx, rk, h1, h2, h3, h4, h5⟩ := h.tight
  obtain ⟨L, hR⟩ := h3 i hi
  have hp := ring_perm hR
  have hlen : L.length ≤ n := by rw [hp.length_eq]; exact mem_len _ _ _
  have HH := has_uf h (i : Int)
  rw [decide_eq_true (show (0 : Int) ≤ (i : Int) ∧ (i : Int) < (n : Int) by omega)] at HH
  have hb1 : Below w.heap.size w (w.alloc (.cells #[.slice none 0 0] 28)) := (Below.refl _ _).alloc (Nat.le_refl _) _
  have HE := each_any (B := w.heap.size) (sb := w.heap.size) (v := .slice none 0 0) (l0 := []) (L := L) (h1.below hb1) (fun k hk => hk.2) ⟨heap_alloc_new w _, World.ownsRow_nil _ _ _ _, Nat.le_refl _⟩ hi h4 hR.1 hR.2.1 hR.2.2.1 (fun j hj => ((hR.2.2.2 j).1 hj).1) (by simp; omega) (by omega)
  have HB1 := Lib.hid hb1
  have HU := Lib.hid (And.intro h2 (And.intro h3 (And.intro h4 (And.intro h5 (And.intro hp (And.intro hlen hR.2.1))))))
  clear h h1 h2 h3 h5 hR hp hlen hb1
  go_enter Try.func18, Try.ntmps18
  go_wp2_with fail
  refine HH.mono ?_
  rintro e w' ⟨rfl, rfl⟩
  go_wp2_with fail
  refine HE.mono ?_
  rintro e w2 ⟨rfl, hF, ⟨v', hBx⟩, hE⟩
  rw [List.nil_append] at hBx
  obtain ⟨h2, h3, h4', h5, hp, hlen, hne⟩ := HU.out
  have hpos : 0 < L.length := by
    cases L with
    | nil => exact absurd rfl hne
    | cons a r => simp
  have c0 : w2.cell? ⟨w'.heap.size, 0, none⟩ = some v' := cell_of_row w2 _ 0 _ _ _ hBx.box
  have hrow := hBx.row
  obtain ⟨g, cap, rfl, hgc, hgl⟩ := own_shape hrow (by omega)
  have hgB : w'.heap.size ≤ g := (hrow.lt g rfl).1
  have hgs : g ≠ w'.heap.size := fun e => row_ne (row_zero hrow) hBx.box (by decide) (by rw [e]; rfl)
  have HC := sort_row w2 w'.heap.size g cap L hrow (by omega)
  have HF := Lib.hid (And.intro hF (And.intro hE (And.intro hBx.box (And.intro hgB hgs))))
  have hbl := (Array.getElem?_eq_some_iff.1 hBx.box).1
  clear hF hE hBx hrow HH HE hgB hgs
  go_wp2_with fail
  refine HC.mono ?_
  rintro e w3 ⟨rfl, l', hpl, hpw, hrd, hE3⟩
  obtain ⟨hF, hE, hbox, hgB, hgs⟩ := HF.out
  have hbox3 := (hE3.block _ hbl (Ne.symm hgs)).trans hbox
  have d0 : w3.cell? ⟨w'.heap.size, 0, none⟩ = some (.slice (some ⟨g, 0, none⟩) L.length cap) := cell_of_row w3 _ 0 _ _ _ hbox3
  have hbl3 := (Array.getElem?_eq_some_iff.1 hbox3).1
  have hl' : l' = mem_ n col i := sorted_is (hpl.trans hp) hpw
  have hF3 := hF.keep hE3 (fun k hk hk2 => by have := hk.2; omega)
  have hEl : Else S w' w3 := by
    have e1 := (Else.alloc (fun k => (S k ∧ k < w'.heap.size) ∨ w'.heap.size ≤ k) w' (.cells #[.slice none 0 0] 28)).trans (hE.trans (hE3.mono fun k hk => .inr (by omega)))
    exact ⟨e1.os, e1.tape, e1.output, e1.size, fun k hk hs => e1.block k hk fun hx => by rcases hx with hx | hx; exact hs hx.1; omega⟩
  have hfin : SetPost S w' b n col ro steps i (.returned (.slice (some ⟨g, 0, none⟩) L.length cap)) w3 := by
    refine ⟨_, rfl, ?_, ⟨L.length, hlen, UFo.more ⟨A, Z, X, par, sz, nx, rk, hF3, h2, h3, h4', h5⟩ fun k hk => hk.1⟩, hEl⟩
    rw [← hl']
    rw [hl', ← hp.length_eq, ← hl']
    exact hrd
  have HFIN := Lib.hid hfin
  clear hfin hEl hF3 hl' hbox3 hF hE hbox hgB hgs hpl hpw hrd hE3 h2 h3 h4' h5 hp hlen hne
  go_wp2_with fail
  go_ret
  exact HFIN.out
set_option maxRecDepth 100000 in
theorem set_out {S : Nat → Prop} {w : World} {b n : Nat} {col ro : Nat → Nat} {steps : Int} (h : UFo S w b n col ro steps) (i : Int) (hi : ¬ (0 ≤ i ∧ i < n)) :
    Calls Try.prog 18 #[.pointer (some ⟨b, 0, none⟩), .int .i64 i] w fun e w' => e = .returned (.slice none 0 0) ∧ w' = w := by
  have HH := has_uf h i
  rw [decide_eq_false hi] at HH
  clear h hi
  go_enter Try.func18, Try.ntmps18
  go_wp2_with fail
  refine HH.mono ?_
  rintro e w' ⟨rfl, rfl⟩
  go_wp2_with fail
  go_ret
  exact ⟨rfl, rfl⟩
end Go.Proofs.Ytamieophdnnbnaa.Un
