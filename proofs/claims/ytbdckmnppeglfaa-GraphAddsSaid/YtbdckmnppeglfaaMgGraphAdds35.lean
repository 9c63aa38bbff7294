/- Texts of one proof, one behind the other. -/
import Derived.Test.YtbdckmnppeglfaaMgGraphAdds33
import Derived.Test.YtbdckmnppeglfaaMgGraphAdds23
import Derived.Test.YtbdckmnppeglfaaShKs
/- graph's Vars: the map's keys, sorted. -/
namespace Go.Proofs.Ytbdckmnppeglfaa
open Go.RowKit Go.Maps Go.Sort Go.Shelf
set_option maxRecDepth 100000
/-- slices.Sort's two contracts at this program. -/
theorem sortsV (m : Nat) : AnyZI.SortsIn Try.prog Try.sortedV_ren Fence.wide m :=
  ⟨fun blk off cap ss W hH hblk hsz => callsIn_wide.2 (AnyM.slices_Sort_int Try.sortV blk off cap ss W hH hblk hsz),
   fun p cap W => callsIn_wide.2 (AnyM.slices_Sort_int_none Try.sortV p cap W)⟩
/-- A map's keys are the variables. -/
theorem keys_names {G : List Gn} {b : Nat} {W : World} {k : Nat} {D : DataW Value} (hown : W.ownsMap Try.prog 3 heldE b k D) (hnd : (names G).Nodup) (hwf : ∀ n ∈ names G, (Lit.int .i64 n).wf = true)
    (hh : ∀ n : Int, (Lit.int .i64 n).wf = true → has D (.int .i64 n) = (gvf G n).isSome) : (names G).Perm (intKeys D) := by
  obtain ⟨es, hD, hpw, -⟩ := hown.entries lawI
  obtain ⟨es', hD', hko⟩ := hown.keysOf
  obtain rfl : es = es' := by rw [hD] at hD'; simpa using hD'
  subst hD
  have hw := intKeys_wf hown Try.underlying3
  refine perm_intKeys hpw (fun p hp => by obtain ⟨v, hv⟩ := hko p hp; obtain ⟨x, _, hx, _⟩ := Maps.keyOf_i64 Try.underlying3 hv; exact ⟨x, hx⟩) hnd (fun x => ?_)
  rw [← gvar_names]
  have e2 : (gvf G x).isSome = (gvar G x).isSome := by unfold gvf; cases gvar G x <;> rfl
  constructor
  · intro h
    rw [hh x (hwf x ((gvar_names G x).1 h)), e2]
    exact h
  · intro h
    have hx : x ∈ intKeys (.map es) := by
      rw [has_eq, List.any_eq_true] at h
      obtain ⟨p, hp, hs⟩ := h
      obtain ⟨v, hv⟩ := hko p hp
      obtain ⟨a, _, ha, _⟩ := Maps.keyOf_i64 Try.underlying3 hv
      rw [ha] at hs
      exact List.mem_map.2 ⟨p, hp, by rw [ha]; simpa [Lit.sameKey, Go.intOf] using hs⟩
    rw [hh x (hw x hx), e2] at h
    exact h
set_option maxHeartbeats 4000000 in
theorem vars_graph (w : World) (B g mb : Nat) (v : Value) (L : List Nd) (G : List Gn) (hG : GrM B w g v mb L G) (hl : G.length ≤ 1000000) (hnd : (names G).Nodup) (hwf : ∀ n ∈ names G, (Lit.int .i64 n).wf = true) :
    Calls Try.prog 15 #[.pointer (some ⟨g, 0, none⟩)] w fun e w' => ∃ v', e = .returned v' ∧ w'.ownsRow w.heap.size 3 1 v' (vsort G).length (ints (vsort G)) ∧ Below w.heap.size w w' := by
  obtain ⟨S, kk, D0, hown, hkk, hT, hS, hh⟩ := hG.vars
  have hperm := keys_names hown hnd hwf (fun n hn => (hh n hn).1)
  have hsz : Maps.size D0 ≤ 1000000 := by
    obtain ⟨es, hD, -⟩ := hown.keysOf
    subst hD
    have h1 := hperm.length_eq
    have h2 : (names G).length ≤ G.length := List.length_filterMap_le _ _
    simp only [intKeys, List.length_map] at h1
    simp only [Maps.size]
    omega
  refine (callsIn_wide (n := 6)).1 ?_
  have hbl := hown.lt
  have hseq : SeqGives Fence.wide 2 Try.prog 84 #[.pointer (some ⟨w.heap.size, 0, none⟩)] encZ (fun ss => ss.Perm (intKeys D0)) (Maps.size D0) (w.alloc (.cells #[.map (some mb)] 84)) :=
    AnyZI.keys_gives (ρ := Try.keysV_ren) { Try.keysV with } Fence.wide _ trivial rfl (by omega) w.heap.size mb kk D0 _ (by simp) (by simp) (by
      obtain ⟨es, clock, hb, Ft, hs, hD⟩ := hown
      exact ⟨es, clock, (Below.heap_alloc _ _ mb hbl).trans hb, Ft, hs, hD⟩)
  have cK : ∀ m W, CallsIn Fence.wide 5 Try.prog 55 #[.map m] W fun e w' => e = .returned (.func (.func 84) #[] #[.pointer (some ⟨W.heap.size, 0, none⟩)]) ∧ w' = W.alloc (.cells #[.map m] 84) := fun m W => AnyZI.keys_in Try.keysV Fence.wide 5 trivial rfl m W
  have cS := AnyZI.sorted_in Try.sortedV Fence.wide 5 trivial trivial trivial trivial rfl (by omega) (sortsV _) (enters_of Try.func73 (by kernel_rfl) rfl) 84 #[.pointer (some ⟨w.heap.size, 0, none⟩)] trivial (enters_of Try.func84 (by kernel_rfl) rfl) _ _ (by unfold maxLen; omega) (by omega) _ hseq
  change CallsIn _ _ Try.prog 54 _ _ _ at cS
  have hfK : Fence.wide.fn 55 := trivial
  have hfS : Fence.wide.fn 54 := trivial
  have g1 : w.cell? ⟨g, 1, none⟩ = some (.map (some mb)) := cell_of_row w _ 1 _ _ (0, 0) hG.cell
  have HP := Lib.hid hperm
  clear hG hown hT hh hperm hseq
  refine callsIn_of_wp Try.func15 rfl trivial ?_ rfl
  simp only [Try.ntmps15, List.size_toArray, List.length_cons, List.length_nil, Nat.reduceAdd, Nat.reduceSub, Array.replicate_succ, Array.replicate_zero, List.push_toArray, List.append_toArray, List.nil_append, List.cons_append]
  gi_wp2_with (first
    | (gi_at_call 55; refine (cK _ _).mono ?_; rintro e w' ⟨rfl, rfl⟩)
    | (gi_at_call 54; refine cS.mono ?_; rintro e w' ⟨v, ss, rfl, hS, hrow, hnil, hb⟩))
  go_ret
  refine ⟨v, rfl, ?_, ((Below.refl _ w).alloc (Nat.le_refl _) _).trans (hb.mono (by simp))⟩
  have h1 := ownsRow_base_a hrow (show w.heap.size ≤ _ by simp)
  have h2 := vsort_eq G ss (hS.trans HP.out.symm)
  have h3 : ss.length = (vsort G).length := by rw [← h2]; exact (List.mergeSort_perm _ _).length_eq.symm
  rw [h2, h3] at h1
  exact h1
end Go.Proofs.Ytbdckmnppeglfaa
