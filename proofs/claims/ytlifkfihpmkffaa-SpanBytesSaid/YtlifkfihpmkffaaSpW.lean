/- The contracts of slices.ContainsFunc at spans, of span.Right and of span.Has. -/
import Derived.Test.YtlifkfihpmkffaaSpV
namespace Go.Proofs.Ytlifkfihpmkffaa
open Go.RowKit

set_option maxHeartbeats 1000000 in
set_option maxRecDepth 100000 in
/-- A search in a list without spans. -/
theorem contains_nil (A : Option Addr) (c : Nat) (fv : Value) (w : World) :
    Calls Try.prog 40 #[.slice A 0 c, fv] w fun e w' => e = .returned (.bool false) ∧ w = w' := by
  go_enter Try.func40, Try.ntmps40
  go_wp2
  refine wp_loop_rounds 1 ?_
  rw [rounds_succ]
  go_wp2
  go_ret
  exact ⟨rfl, rfl⟩
/-- A search in a list of spans. -/
theorem contains_any (g : Nat) (lb : Array Value) (p : Sp → Bool) (w : World) (v : Value) (l : List Sp) (eg : ∀ args w, (callFunc g args).run Try.prog w = .ok (.enter g args) w)
    (hp : ∀ (W : World) (x : Sp), Below w.heap.size w W → Calls Try.prog g (#[.agg #[.int .i64 x.1, .int .i64 x.2]] ++ lb) W fun e w' => e = .returned (.bool (p x)) ∧ Below w.heap.size w w') (h : RdS w v l) (hl : l.length ≤ 1000000) :
    Calls Try.prog 40 #[v, .func (.func g) #[] lb] w fun e w' => e = .returned (.bool (l.any p)) ∧ Below w.heap.size w w' := by
  rcases h.2 with ⟨h0, A, c, rfl⟩ | ⟨b, off, cap, rfl, _, _, hlt, hc⟩
  · have hn : l = [] := List.eq_nil_of_length_eq_zero h0
    subst hn
    exact (contains_nil A c _ w).mono fun e w' ⟨he, hw⟩ => ⟨he, by rw [← hw]; exact Below.refl _ _⟩
  · have hcon := AnyQ.slices_ContainsFunc Try.containsSp 2 Try.isAgg25 Try.sizeOf25 enc2 (fun _ => rfl) p g lb eg b off l.length cap l w hp (Nat.le_refl _) (by omega) hlt (fun j hj i u hu => by
      have hi : i < 2 := by
        have := (List.getElem?_eq_some_iff.1 hu).1
        simpa [enc2] using this
      have hf := flat2 l j i hj hi
      rw [getElem!_pos l j hj] at hu
      rw [hu] at hf
      have := hc (j * 2 + i) u hf
      rwa [← Nat.add_assoc] at this)
    rw [List.take_length] at hcon
    exact hcon
set_option maxHeartbeats 1000000 in
set_option maxRecDepth 100000 in
theorem right_any (n : Int) (w : World) (v : Value) (l : List Sp) (h : RdS w v l) (hl : l.length ≤ 1000000) :
    Calls Try.prog 16 #[.int .i64 n, v] w fun e w' => e = .returned (.bool (!l.any (wrongSp n))) ∧ Below w.heap.size w w' := by
  have h1 : RdS (w.alloc (.cells #[.int .i64 n] 3)) v l := Rd.alloc h _
  have hcon := contains_any 41 #[.pointer (some ⟨w.heap.size, 0, none⟩)] (wrongSp n) (w.alloc (.cells #[.int .i64 n] 3)) v l (enters_of Try.func41 (by kernel_rfl) rfl) (fun W x hb => by
    have hz := hb.size
    simp at hz
    refine (right1_any n x w.heap.size W ((hb.cell (p := ⟨w.heap.size, 0, none⟩) (by simp)).trans (by go_simp)) (by omega)).mono ?_
    rintro e w' ⟨he, hb2⟩
    exact ⟨he, hb.trans (hb2.mono hb.size)⟩) h1 hl
  generalize l.any (wrongSp n) = r at hcon ⊢
  go_enter Try.func16, Try.ntmps16
  go_wp2_with fail
  refine hcon.mono ?_
  rintro e w1 ⟨rfl, hb1⟩
  go_wp2_with fail
  go_ret
  exact ⟨rfl, ((Below.refl _ _).alloc (Nat.le_refl _) _).trans (hb1.mono (by simp))⟩
set_option maxHeartbeats 1000000 in
set_option maxRecDepth 100000 in
theorem has_any (i : Int) (w : World) (v : Value) (l : List Sp) (h : RdS w v l) (hl : l.length ≤ 1000000) :
    Calls Try.prog 18 #[.int .i64 i, v] w fun e w' => e = .returned (.bool (l.any (hasSp i))) ∧ Below w.heap.size w w' := by
  have h1 : RdS (w.alloc (.cells #[.int .i64 i] 3)) v l := Rd.alloc h _
  have hcon := contains_any 42 #[.pointer (some ⟨w.heap.size, 0, none⟩)] (hasSp i) (w.alloc (.cells #[.int .i64 i] 3)) v l (enters_of Try.func42 (by kernel_rfl) rfl) (fun W x hb => by
    have hz := hb.size
    simp at hz
    refine (has1_any i x w.heap.size W ((hb.cell (p := ⟨w.heap.size, 0, none⟩) (by simp)).trans (by go_simp)) (by omega)).mono ?_
    rintro e w' ⟨he, hb2⟩
    exact ⟨he, hb.trans (hb2.mono hb.size)⟩) h1 hl
  generalize l.any (hasSp i) = r at hcon ⊢
  go_enter Try.func18, Try.ntmps18
  go_wp2_with fail
  refine hcon.mono ?_
  rintro e w1 ⟨rfl, hb1⟩
  go_wp2_with fail
  go_ret
  exact ⟨rfl, ((Below.refl _ _).alloc (Nat.le_refl _) _).trans (hb1.mono (by simp))⟩
end Go.Proofs.Ytlifkfihpmkffaa
