/- UnionPlays: the call's box beside the forest and the row; the row with one more. -/
import Derived.Test.YtamieophdnnbnaaPlA
import Derived.Deep.QuietTactic
import Derived.BigQuiet
namespace Go.Proofs.Ytamieophdnnbnaa.Un
open Go.RowKit
attribute [local go_sem] Oper.semAt_some
attribute [local go_sem ↓] builtin_app

def Q6 (h kd : Nat) (A B : Int) (S : Nat → Prop) (w : World) (b n : Nat) (c ro : Nat → Nat) (st : Int) (d : Nat → Nat) (sv : Value) (wr : World) : Prop :=
  P5 S w b n c ro st n d sv wr ∧ wr.heap[h]? = some (Obj.cells #[.int .u8 (kd : Nat), .int .i64 A, .int .i64 B] 32) ∧ ¬ S h
section
variable {h kd : Nat} {A B : Int} {S : Nat → Prop} {w wr : World} {b n : Nat} {c ro : Nat → Nat} {st : Int} {d : Nat → Nat} {sv : Value}
theorem Q6.else_ (H : Q6 h kd A B S w b n c ro st d sv wr) {c' ro' : Nat → Nat} {st' : Int} {w' : World} (he : Else S wr w') (hf : UFo S w' b n c' ro' st') : Q6 h kd A B S w b n c' ro' st' d sv w' :=
  ⟨H.1.else_ he hf, (he.block h (Array.getElem?_eq_some_iff.1 H.2.1).1 H.2.2).trans H.2.1, H.2.2⟩
theorem Q6.below (H : Q6 h kd A B S w b n c ro st d sv wr) {w' : World} (hb : Below wr.heap.size wr w') : Q6 h kd A B S w b n c ro st d sv w' :=
  ⟨H.1.below hb, (hb.block h (Array.getElem?_eq_some_iff.1 H.2.1).1).trans H.2.1, H.2.2⟩
theorem Q6.row (H : Q6 h kd A B S w b n c ro st d sv wr) {w' : World} {v' : Value} {d' : Nat → Nat} (hb : Below wr.heap.size wr w') (ho : w'.ownsRow wr.heap.size 3 1 v' n (rowI n d')) : Q6 h kd A B S w b n c ro st d' v' w' :=
  ⟨H.1.row hb ho, (hb.block h (Array.getElem?_eq_some_iff.1 H.2.1).1).trans H.2.1, H.2.2⟩
theorem Q6.cells (H : Q6 h kd A B S w b n c ro st d sv wr) : wr.cell? ⟨h, 0, none⟩ = some (.int .u8 (kd : Nat)) ∧ wr.cell? ⟨h, 1, none⟩ = some (.int .i64 A) ∧ wr.cell? ⟨h, 2, none⟩ = some (.int .i64 B) :=
  ⟨cell_of_row wr h 0 _ _ _ H.2.1, cell_of_row wr h 1 _ _ _ H.2.1, cell_of_row wr h 2 _ _ _ H.2.1⟩
theorem Q6.join (H : Q6 h kd A B S w b n c ro st d sv wr) (hst : 0 ≤ st ∧ st ≤ 10000000000000) (x y : Nat) (hx : x < n) (hy : y < n) :
    Calls Try.prog 12 #[.pointer (some ⟨b, 0, none⟩), .int .i64 (x : Nat), .int .i64 (y : Nat)] wr fun e w' => ∃ (r k : Nat) (ro' : Nat → Nat), e = .returned (.tuple #[.int .i64 (r : Nat), .bool (!(c x == c y))]) ∧ r < n ∧ (c r = c x ∨ c r = c y) ∧ k ≤ 2 * dg n ∧ Q6 h kd A B S w b n (paint c x y) ro' (st + k) d sv w' := by
  refine (join_in H.1.f hst x y hx hy).mono ?_
  rintro e w' ⟨r, k, ro', rfl, hr, hc, hk, hU, hE⟩
  exact ⟨r, k, ro', rfl, hr, hc, hk, H.else_ hE hU⟩
theorem Q6.root (H : Q6 h kd A B S w b n c ro st d sv wr) (hst : 0 ≤ st ∧ st ≤ 10000000000000) (x : Nat) (hx : x < n) :
    Calls Try.prog 16 #[.pointer (some ⟨b, 0, none⟩), .int .i64 (x : Nat)] wr fun e w' => ∃ k : Nat, e = .returned (.tuple #[.int .i64 (ro x : Nat), .bool true]) ∧ k ≤ dg n ∧ Q6 h kd A B S w b n c ro (st + k) d sv w' := by
  refine (root_in H.1.f (by omega) x hx).mono ?_
  rintro e w' ⟨k, rfl, hk, hU, hE⟩
  exact ⟨k, rfl, hk, H.else_ hE hU⟩
theorem Q6.same (H : Q6 h kd A B S w b n c ro st d sv wr) (hst : 0 ≤ st ∧ st ≤ 10000000000000) (x y : Nat) (hx : x < n) (hy : y < n) :
    Calls Try.prog 20 #[.pointer (some ⟨b, 0, none⟩), .int .i64 (x : Nat), .int .i64 (y : Nat)] wr fun e w' => ∃ k : Nat, e = .returned (.bool (c x == c y)) ∧ k ≤ 2 * dg n ∧ Q6 h kd A B S w b n c ro (st + k) d sv w' := by
  refine (same_in H.1.f hst x y hx hy).mono ?_
  rintro e w' ⟨k, rfl, hk, hU, hE⟩
  exact ⟨k, rfl, hk, H.else_ hE hU⟩
theorem Q6.set (H : Q6 h kd A B S w b n c ro st d sv wr) (hst : 0 ≤ st ∧ st ≤ 10000000000000) (x : Nat) (hx : x < n) :
    Calls Try.prog 18 #[.pointer (some ⟨b, 0, none⟩), .int .i64 (x : Nat)] wr fun e w' => ∃ (v : Value) (k : Nat), e = .returned v ∧ Rd w' 1 v (mem_ n c x).length (rowL (mem_ n c x)) ∧ k ≤ n ∧ Q6 h kd A B S w b n c ro (st + k) d sv w' := by
  refine (set_in H.1.f hst x hx).mono ?_
  rintro e w' ⟨v, rfl, hr, ⟨k, hk, hU⟩, hE⟩
  exact ⟨v, k, rfl, hr, hk, H.else_ hE hU⟩
theorem Q6.roots (H : Q6 h kd A B S w b n c ro st d sv wr) {x : Nat} (hx : x < n) : ro x < n ∧ c (ro x) = c x := by
  obtain ⟨_, _, _, _, _, _, _, _, _, _, _, h5⟩ := H.1.f
  exact ⟨(h5 x hx).1, (h5 x hx).2.2⟩
theorem Q6.root_eq (H : Q6 h kd A B S w b n c ro st d sv wr) {x y : Nat} (hx : x < n) (hy : y < n) : (ro x == ro y) = (c x == c y) := by
  obtain ⟨_, _, _, _, _, _, _, _, h2, _, _, h5⟩ := H.1.f
  rw [Bool.eq_iff_iff, beq_iff_eq, beq_iff_eq]
  constructor
  · intro e; rw [← (h5 x hx).2.2, ← (h5 y hy).2.2, e]
  · intro e
    exact h2.root _ _ (h5 x hx).1 (h5 y hy).1 (h5 x hx).2.1 (h5 y hy).2.1 (by rw [(h5 x hx).2.2, (h5 y hy).2.2, e])
end
theorem rin_is {w : World} {B : Nat} {v : Value} {n : Nat} {xs : List Value} (h : w.ownsRow B 3 1 v n xs) (i : Int) (t : Bool) (ht : decide (0 ≤ i ∧ i < n) = t) :
    Calls Try.prog 13 #[v, .int .i64 i] w fun e w' => e = .returned (.bool t) ∧ w' = w := ht ▸ rin_any h i
theorem rsame_is {w : World} {B : Nat} {v : Value} {n : Nat} {c : Nat → Nat} (h : w.ownsRow B 3 1 v n (rowI n c)) (i j : Nat) (hi : i < n) (hj : j < n) (t : Bool) (ht : (c i == c j) = t) :
    Calls Try.prog 14 #[v, .int .i64 (i : Nat), .int .i64 (j : Nat)] w fun e w' => e = .returned (.bool t) ∧ ∃ q, w' = w.drewN q := ht ▸ rsame_in h i j hi hj
theorem Okst.one {st K : Int} {n : Nat} (h : Okst st K n) (k : Nat) (hk : k ≤ 4 * dgs n + 8) : Okst (st + k) (K + 1) n := h.more k 1 (by omega)
theorem Okst.by_ {st K : Int} {n : Nat} (h : Okst st K n) (j : Nat) : Okst st (K + j) n := by
  have := h.more 0 j (by have : (0 : Int) ≤ (j : Nat) * (4 * (dgs n : Nat) + 8) := Int.mul_nonneg (by omega) (by omega); omega)
  simpa using this
theorem Okst.two {st K : Int} {n : Nat} (h : Okst st K n) (k : Nat) (hk : k ≤ 4 * dgs n + 8) : Okst (st + k) (K + 2) n := by
  have := (h.one k hk).by_ 1
  rw [show K + 2 = K + 1 + ((1 : Nat) : Int) by omega]
  exact this
theorem Okst.set {st K : Int} {n : Nat} (h : Okst st K n) (k : Nat) (hk : k ≤ n) : Okst (st + k) (K + n + 1) n := by
  have := h.more k (n + 1) (by
    have h1 : ((n + 1 : Nat) : Int) * 1 ≤ ((n + 1 : Nat) : Int) * (4 * (dgs n : Nat) + 8) := Int.mul_le_mul_of_nonneg_left (by omega) (by omega)
    omega)
  rw [show K + n + 1 = K + ((n + 1 : Nat) : Int) by omega]
  exact this
theorem Below.drews (w : World) (q : Nat) : Below w.heap.size w (w.drewN q) := ⟨rfl, rfl, rfl, Nat.le_refl _, fun _ _ => rfl⟩
/-- The whole row behind an empty one. -/
theorem app_row (w : World) (B : Nat) (v : Value) (n : Nat) (c : Nat → Nat) (hown : w.ownsRow B 3 1 v n (rowI n c)) (hn : n ≤ 10000000) :
    ∃ A cp w1, (app_ #[29, 29] 29 #[.slice (some ⟨w.heap.size, 0, none⟩) 0 0, v]).run Try.prog (w.alloc (.cells #[] 3)) = .ok (.slice A n cp) w1 ∧
      w1.ownsRow w.heap.size 3 1 (.slice A n cp) n (rowI n c) ∧ Below w.heap.size w w1 := by
  obtain ⟨i0, hi0, hz0, hz1, hz2⟩ := info_parts intInfo
  have own0 : (w.alloc (.cells #[] 3)).ownsRow w.heap.size 3 1 (.slice (some ⟨w.heap.size, 0, none⟩) 0 0) 0 [] :=
    ⟨rfl, .inr ⟨w.heap.size, 0, #[], rfl, Nat.le_refl _, heap_alloc_new w _, Nat.le_refl _, by unfold maxLen; omega, rfl, rfl⟩⟩
  obtain ⟨v', w1, hrun, hown1, hg1, _⟩ := run_append_rd (P := Try.prog) _ w.heap.size 29 29 3 i0 _ 1 8 Try.underlying29 hi0 hz0 hz1 hz2 rfl (by omega) _ _ _ own0 v n _ ((Rd.of_own hown).alloc _) (by
    intro u hu
    unfold rowI at hu
    obtain ⟨k, _, rfl⟩ := List.mem_map.1 hu
    rfl) (by unfold maxLen; omega) (by omega) (by rw [World.size_alloc]; omega)
  rw [Nat.zero_add, List.nil_append] at hown1
  obtain ⟨A', cp, rfl⟩ := row_form hown1
  exact ⟨A', cp, w1, hrun, hown1, ((Below.refl w.heap.size w).alloc (Nat.le_refl _) _).grown hg1 (by rw [World.size_alloc]; omega) fun k hk => (own0.lt k hk).1⟩
theorem rowI_more (n : Nat) (c : Nat → Nat) (x : Nat) : rowI (n + 1) (upd c n x) = rowI n c ++ [.int .i64 (x : Nat)] := by
  rw [rowI_snoc, upd_same]
  congr 1
  unfold rowI
  exact List.map_congr_left fun k hk => by rw [upd_other _ _ (Nat.ne_of_lt (List.mem_range.1 hk))]
end Go.Proofs.Ytamieophdnnbnaa.Un
