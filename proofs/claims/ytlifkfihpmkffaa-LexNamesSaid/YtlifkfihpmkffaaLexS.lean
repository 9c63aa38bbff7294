/- The contracts of the two Prints: each returns the texts of the tokens that are no End, with a blank between. -/
import Derived.Test.YtlifkfihpmkffaaLexF
import Derived.Test.YtlifkfihpmkffaaShJoin
namespace Go.Proofs.Ytlifkfihpmkffaa
open Go.RowKit

/-- The texts that are printed. -/
def printed (ts : List TV) : List ByteArray := (ts.filter fun t => t.1 != 0).map (·.2.1)
def joinS (xs : List ByteArray) : ByteArray := ⟨(Lib.join (xs.map (·.data.toList)) [32]).toArray⟩
theorem strInfo : (Try.prog.info? 9).map (fun i => (i.zero, i.size, i.bytes)) = some (some (.string ⟨#[]⟩), 1, 16) := by kernel_rfl
theorem lens_le (xs : List ByteArray) (h : ∀ x ∈ xs, x.size ≤ 100000) : Lib.lens (xs.map (·.data.toList)) ≤ xs.length * 100000 := by
  induction xs with
  | nil => simp [Lib.lens]
  | cons x r ih =>
    have h1 := ih (fun y hy => h y (by simp [hy]))
    have h2 := h x (by simp)
    unfold Lib.lens at h1 ⊢
    simp only [List.map_cons, List.sum_cons, List.length_cons, Array.length_toList] at h1 ⊢
    have : x.data.size = x.size := rfl
    omega
theorem printed_take (ts : List TV) (k : Nat) (hk : k < ts.length) : printed (ts.take (k + 1)) = if (ts[k].1 != 0) = true then printed (ts.take k) ++ [ts[k].2.1] else printed (ts.take k) := by
  unfold printed
  rw [List.take_succ_eq_append_getElem hk, List.filter_append, List.map_append]
  split
  · rename_i h; rw [List.filter_cons, if_pos h]; simp
  · rename_i h; rw [List.filter_cons, if_neg h]; simp
theorem printed_len (ts : List TV) : (printed ts).length ≤ ts.length := by
  unfold printed; rw [List.length_map]; exact List.length_filter_le _ _
theorem printed_mem (ts : List TV) (x : ByteArray) (h : x ∈ printed ts) : ∃ t ∈ ts, t.2.1 = x := by
  unfold printed at h
  obtain ⟨t, ht, rfl⟩ := List.mem_map.1 h
  exact ⟨t, (List.mem_filter.1 ht).1, rfl⟩
theorem join_small (xs : List ByteArray) (h : ∀ x ∈ xs, x.size ≤ 100000) (hl : xs.length ≤ 100000) : (Lib.join (xs.map (·.data.toList)) [32]).length ≤ 140737488355328 := by
  cases xs with
  | nil => simp [Lib.join_nil]
  | cons x r =>
    rw [List.map_cons, Lib.join_length]
    have := lens_le (x :: r) h
    rw [List.map_cons] at this
    simp only [List.length_cons, List.length_nil, List.length_map] at this hl ⊢
    omega

set_option maxHeartbeats 1000000 in
/-- What the call owes behind its loop: the texts, joined. -/
theorem join_own (w : World) (base : Nat) (v : Value) (xs : List ByteArray) (h : w.ownsRow base 9 1 v xs.length (xs.map Value.string)) (hb : ∀ x ∈ xs, x.size ≤ 100000) (hl : xs.length ≤ 100000) :
    Calls Try.prog 56 #[v, .string ⟨#[32]⟩] w fun e w' => e = .returned (.string (joinS xs)) ∧ Below w.heap.size w w' := by
  rcases h.2 with ⟨rfl, h0⟩ | ⟨g, cap, cur, rfl, _, hg, hnc, hcm, _, _⟩
  · have : xs = [] := List.eq_nil_of_length_eq_zero h0
    subst this
    exact (Try.strings_Join_none none 0 _ w).mono fun e w' ⟨he, hw⟩ => ⟨he, by rw [hw]; exact Below.refl _ _⟩
  · refine (Try.strings_Join g 0 cap xs ⟨#[32]⟩ w (fun j x hx => ?_) (Array.getElem?_eq_some_iff.1 hg).1 (by omega) hnc (join_small xs hb hl)).mono fun e w' ⟨he, hw⟩ => ⟨he, hw⟩
    have hc := h.cells (g := g) rfl j (.string x) (by rw [List.getElem?_map, hx]; rfl)
    rw [Addr.add_lit] at hc
    exact hc

set_option maxHeartbeats 1000000 in
theorem print_any (w : World) (v : Value) (ts : List TV) (h : RdT w v ts) (hb : ∀ t ∈ ts, t.2.1.size ≤ 100000) (hl : ts.length ≤ 100000) :
    Calls Try.prog 36 #[v] w fun e w' => e = .returned (.string (joinS (printed ts))) ∧ Below w.heap.size w w' := by
  obtain ⟨i0, hi, hz0, hz1, hz2⟩ := info_parts strInfo
  have hpl : ∀ k, (printed (ts.take k)).length ≤ k := fun k => Nat.le_trans (printed_len _) (by rw [List.length_take]; omega)
  have hpb : Hid (∀ x ∈ printed ts, x.size ≤ 100000) := by
    intro x hx
    obtain ⟨t, ht, rfl⟩ := printed_mem ts x hx
    exact hb t ht
  have Hpl := Lib.hid hpl
  clear hpl hb
  by_cases h0 : 0 < ts.length
  · obtain ⟨b, off, cap, rfl, hnc, hcm, hlt, hc⟩ := h.form h0
    have hcl := Lib.hid hc
    clear h hc
    go_enter Try.func36, Try.ntmps36
    go_wp2_with fail
    go_loopw [3, 8] (fun u t wr => ∃ k : Nat, k ≤ ts.length ∧ t = .int .i64 k ∧ wr.ownsRow w.heap.size 9 1 u (printed (ts.take k)).length ((printed (ts.take k)).map Value.string) ∧ Below w.heap.size w wr) (fun _ t _ => ts.length - (intOf t).toNat)
    case atStart => exact ⟨0, Nat.zero_le _, rfl, World.ownsRow_nil _ _ _ _, Below.refl _ _⟩
    case round =>
      obtain ⟨k, hk, rfl, hown, hbw⟩ := hrel
      by_cases hkl : k < ts.length
      · obtain ⟨c0, c1, c2, c3⟩ := hcl.out k hkl
        have e0 := (hbw.cell (p := ⟨b, off + k * 4, none⟩) hlt).trans c0
        have e1 := (hbw.cell (p := ⟨b, off + k * 4 + 1, none⟩) hlt).trans c1
        have e2 := (hbw.cell (p := ⟨b, off + k * 4 + 2, none⟩) hlt).trans c2
        have e3 := (hbw.cell (p := ⟨b, off + k * 4 + 3, none⟩) hlt).trans c3
        clear c0 c1 c2 c3
        have hsw := hbw.size
        have hbl : b < wr.heap.size := by omega
        have hpt := printed_take ts k hkl
        have hp1 := Hpl.out k
        have hp2 := Hpl.out (k + 1)
        obtain ⟨P0, hP0⟩ : ∃ P, P = printed (ts.take k) := ⟨_, rfl⟩
        obtain ⟨P1, hP1⟩ : ∃ P, P = printed (ts.take (k + 1)) := ⟨_, rfl⟩
        rw [← hP0, ← hP1] at hpt
        rw [← hP0] at hown hp1
        rw [← hP1] at hp2
        have HP1 := Lib.hid hP1
        clear hP0 hP1
        generalize ts[k] = t at *
        obtain ⟨t0, t1, t2, t3⟩ := t
        by_cases hz : (t0 != 0) = true
        · rw [if_pos hz] at hpt
          have Hpt := Lib.hid hpt
          clear hpt
          go_wp2_with (at_builtin; refine wpList_append_own _ rfl (.tmp 15) (.tmp 18) 34 rfl w.heap.size 9 i0 _ 1 16 Try.underlying34 hi hz0 hz1 hz2 rfl (by decide) _ P0.length (P0.map Value.string) rfl ((hown.alloc _).alloc _) ⟨wr.heap.size + 1, 0, none⟩ 1 1 [.string t1] rfl rfl (cells_new' (wr.alloc _) _ (by simp) _ _) (fun u hu => by simp at hu; subst hu; rfl) (by unfold maxLen; omega) (by omega) (by simp; omega) ?_; intro v1 w1 hown1 hg1 _)
          have hb2 : Below w.heap.size w w1 := ((hbw.alloc hsw _).alloc (by simp; omega) _).grown hg1 (by simp; omega) (fun b hb => (hown.lt b hb).1)
          go_wp2_with fail
          go_roundw
          case rel =>
            refine ⟨k + 1, by omega, by go_num, ?_, hb2⟩
            rw [← HP1.out, Hpt.out, List.length_append, List.map_append]
            exact hown1
          case measure => simp [intOf]; omega
        · rw [if_neg hz] at hpt
          have Hpt := Lib.hid hpt
          have hz' : (t0 != 0) = false := by simpa using hz
          clear hpt hz
          go_wp2_with fail
          go_roundw
          case rel =>
            refine ⟨k + 1, by omega, by go_num, ?_, hbw.alloc hsw _⟩
            rw [← HP1.out, Hpt.out]
            exact hown.alloc _
          case measure => simp [intOf]; omega
      · have hke : k = ts.length := by omega
        subst hke
        rw [List.take_length] at hown
        have hbs := hbw.size
        go_wp2_with (go_at_call 56; refine (join_own wr _ _ _ hown hpb.out (Nat.le_trans (printed_len _) hl)).mono ?_; rintro e w' ⟨rfl, hb2⟩)
        go_ret
        exact ⟨rfl, hbw.trans (hb2.mono hbs)⟩
  · have hnil : ts = [] := List.eq_nil_of_length_eq_zero (by omega)
    subst hnil
    obtain ⟨A, c, rfl⟩ : ∃ A c, v = .slice A 0 c := by
      rcases h.2 with ⟨h0, A, c, rfl⟩ | ⟨b, off, cap, rfl, _⟩
      · exact ⟨A, c, rfl⟩
      · exact ⟨_, _, rfl⟩
    clear h
    go_enter Try.func36, Try.ntmps36
    go_wp2_with fail
    refine wp_loop_rounds 1 ?_
    rw [rounds_succ]
    go_wp2_with (go_at_call 56; refine (Try.strings_Join_none none 0 _ _).mono ?_; rintro e w' ⟨rfl, rfl⟩)
    go_ret
    exact ⟨rfl, Below.refl _ _⟩
end Go.Proofs.Ytlifkfihpmkffaa
