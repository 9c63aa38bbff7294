/- A forest in memory: rows of ints, and the struct that holds them. -/
import Derived.Test.YtamieophdnnbnaaRows
import Derived.Test.YtamieophdnnbnaaUnQ
import Derived.Test.YtamieophdnnbnaaMem
import Derived.WalkKit
import Derived.WalkSpells
import Derived.WalkLawsBesides
import Derived.Lib.Hide
import Derived.OwnWalk
namespace Go.Proofs.Ytamieophdnnbnaa.Un
open Go.RowKit

/-- What the set S has not stays. -/
structure Else (S : Nat → Prop) (w w' : World) : Prop where
  os : w'.os = w.os
  tape : w'.tape = w.tape
  output : w'.output = w.output
  size : w.heap.size ≤ w'.heap.size
  block : ∀ k, k < w.heap.size → ¬ S k → w'.heap[k]? = w.heap[k]?
theorem Else.refl (S : Nat → Prop) (w : World) : Else S w w := ⟨rfl, rfl, rfl, Nat.le_refl _, fun _ _ _ => rfl⟩
theorem Else.trans {S : Nat → Prop} {a b c : World} (h : Else S a b) (k : Else S b c) : Else S a c :=
  ⟨k.os.trans h.os, k.tape.trans h.tape, k.output.trans h.output, Nat.le_trans h.size k.size, fun i hi hs => (k.block i (Nat.lt_of_lt_of_le hi h.size) hs).trans (h.block i hi hs)⟩
theorem Else.mono {S T : Nat → Prop} {a b : World} (h : Else S a b) (hst : ∀ k, S k → T k) : Else T a b :=
  ⟨h.os, h.tape, h.output, h.size, fun k hk ht => h.block k hk fun hs => ht (hst k hs)⟩
theorem Else.below {S : Nat → Prop} {a b : World} {B : Nat} (h : Else S a b) (hs : ∀ k, S k → B ≤ k) (hB : B ≤ a.heap.size) : Below B a b :=
  ⟨h.os, h.tape, h.output, h.size, fun k hk => h.block k (by omega) fun hx => by have := hs k hx; omega⟩
theorem Else.of_below {S : Nat → Prop} {a b : World} (h : Below a.heap.size a b) : Else S a b :=
  ⟨h.os, h.tape, h.output, h.size, fun k hk _ => h.block k hk⟩
theorem Else.set {S : Nat → Prop} (w : World) {p : Addr} (hp : S p.block) (u : Value) : Else S w (w.setCell p u) :=
  ⟨rfl, rfl, rfl, by simp [World.setCell], fun k _ hs => Below.heap_setCell _ _ _ _ (by rintro rfl; exact hs hp)⟩
theorem Else.alloc (S : Nat → Prop) (w : World) (o : Obj) : Else S w (w.alloc o) :=
  ⟨rfl, rfl, rfl, by simp, fun k hk _ => Below.heap_alloc _ _ _ hk⟩
theorem Else.grown {S : Nat → Prop} {w w' : World} {row : Option Nat} (h : w.grownBy w' row) (hr : ∀ k, row = some k → S k) : Else S w w' :=
  ⟨h.os, h.tape, h.output, h.size, fun k hk hs => h.block k hk fun e => hs (hr k e.symm)⟩

def rowI (n : Nat) (f : Nat → Nat) : List Value := (List.range n).map fun k => Value.int .i64 (f k : Int)
theorem rowI_len (n : Nat) (f : Nat → Nat) : (rowI n f).length = n := by simp [rowI]
theorem rowI_get {n : Nat} {f : Nat → Nat} {k : Nat} (h : k < n) : (rowI n f)[k]? = some (.int .i64 (f k : Int)) := by simp [rowI, h]
theorem rowI_set {n : Nat} {f : Nat → Nat} {i : Nat} (v : Nat) : (rowI n f).set i (.int .i64 (v : Int)) = rowI n (upd f i v) := by
  apply List.ext_getElem?
  intro k
  rw [List.getElem?_set, rowI_len]
  by_cases hk : k < n
  · rw [rowI_get hk, rowI_get hk]
    by_cases e : i = k
    · subst e; rw [if_pos rfl, if_pos hk, upd_same]
    · rw [if_neg e, upd_other _ _ (Ne.symm e)]
  · rw [List.getElem?_eq_none (by rw [rowI_len]; omega), List.getElem?_eq_none (by rw [rowI_len]; omega)]
    split
    · rw [if_neg (by omega)]
    · rfl
theorem rowI_snoc (n : Nat) (f : Nat → Nat) : rowI (n + 1) f = rowI n f ++ [.int .i64 (f n : Int)] := by
  simp [rowI, List.range_succ]
theorem rowI_congr {n : Nat} {f g : Nat → Nat} (h : ∀ k, k < n → f k = g k) : rowI n f = rowI n g := by
  unfold rowI
  apply List.map_congr_left
  intro k hk
  rw [h k (List.mem_range.1 hk)]

/-- A forest, as it lies. -/
structure FM (S : Nat → Prop) (w : World) (b n : Nat) (A Z X : Value) (par sz nx : Nat → Nat) (sets steps : Int) : Prop where
  blk : w.heap[b]? = some (Obj.cells #[A, Z, X, .int .i64 sets, .int .i64 steps] 54)
  sb : S b
  ra : w.ownsRow 0 3 1 A n (rowI n par)
  rz : w.ownsRow 0 3 1 Z n (rowI n sz)
  rx : w.ownsRow 0 3 1 X n (rowI n nx)
  sa : ∀ k, A.ownBlock = some k → S k ∧ Z.ownBlock ≠ some k ∧ X.ownBlock ≠ some k
  sz_ : ∀ k, Z.ownBlock = some k → S k ∧ X.ownBlock ≠ some k
  sx : ∀ k, X.ownBlock = some k → S k
theorem own_shape {w : World} {base : Nat} {e : TypeId} {size : Nat} {v : Value} {n : Nat} {xs : List Value} (h : w.ownsRow base e size v n xs) (hn : 0 < n) : ∃ g c, v = .slice (some ⟨g, 0, none⟩) n c ∧ n ≤ c ∧ g < w.heap.size := by
  rcases h.2 with ⟨_, h0⟩ | ⟨g, cap, cur, hv, _, hh, hc, _⟩
  · omega
  · exact ⟨g, cap, hv, hc, (Array.getElem?_eq_some_iff.1 hh).1⟩
section
variable {S : Nat → Prop} {w : World} {b n : Nat} {A Z X : Value} {par sz nx : Nat → Nat} {sets steps : Int}
theorem FM.lt (h : FM S w b n A Z X par sz nx sets steps) : b < w.heap.size := (Array.getElem?_eq_some_iff.1 h.blk).1
theorem FM.cells (h : FM S w b n A Z X par sz nx sets steps) : w.cell? ⟨b, 0, none⟩ = some A ∧ w.cell? ⟨b, 1, none⟩ = some Z ∧ w.cell? ⟨b, 2, none⟩ = some X ∧ w.cell? ⟨b, 3, none⟩ = some (.int .i64 sets) ∧ w.cell? ⟨b, 4, none⟩ = some (.int .i64 steps) :=
  ⟨cell_of_row w b 0 _ _ _ h.blk, cell_of_row w b 1 _ _ _ h.blk, cell_of_row w b 2 _ _ _ h.blk, cell_of_row w b 3 _ _ _ h.blk, cell_of_row w b 4 _ _ _ h.blk⟩
theorem FM.frozen (h : FM S w b n A Z X par sz nx sets steps) (off : Nat) : w.frozen? ⟨b, off, none⟩ = false := by simp [World.frozen?, h.blk]
theorem row_ne {v : Value} {m : Nat} {xs : List Value} {T T' : TypeId} {cs : Array Value} (h : w.ownsRow 0 T 1 v m xs) (hb : w.heap[b]? = some (Obj.cells cs T')) (hne : T ≠ T') : v.ownBlock ≠ some b := by
  intro e
  rcases h.2 with ⟨rfl, _⟩ | ⟨g, cap, cur, rfl, _, hg, _⟩
  · cases e
  · injection e with e
    have e : g = b := e
    subst e
    rw [hg] at hb
    injection hb with hb
    injection hb with _ hb _
    exact hne hb
theorem FM.keep {S' : Nat → Prop} {w' : World} (h : FM S w b n A Z X par sz nx sets steps) (he : Else S' w w') (hd : ∀ k, S k → ¬ S' k) : FM S w' b n A Z X par sz nx sets steps := by
  have hr : ∀ {v : Value} {f : Nat → Nat}, w.ownsRow 0 3 1 v n (rowI n f) → (∀ k, v.ownBlock = some k → S k) → w'.ownsRow 0 3 1 v n (rowI n f) := by
    intro v f ho hs
    refine ⟨ho.1, ?_⟩
    rcases ho.2 with h2 | ⟨g, cap, cur, hv, hg, hh, r⟩
    · exact .inl h2
    · exact .inr ⟨g, cap, cur, hv, hg, (he.block g (Array.getElem?_eq_some_iff.1 hh).1 (hd g (hs g (by rw [hv]; rfl)))).trans hh, r⟩
  exact ⟨(he.block b h.lt (hd b h.sb)).trans h.blk, h.sb, hr h.ra fun k hk => (h.sa k hk).1, hr h.rz fun k hk => (h.sz_ k hk).1, hr h.rx h.sx, h.sa, h.sz_, h.sx⟩
theorem FM.below {w' : World} (h : FM S w b n A Z X par sz nx sets steps) (hb : Below w.heap.size w w') : FM S w' b n A Z X par sz nx sets steps :=
  h.keep (Else.of_below (S := fun _ => False) hb) fun _ _ => id
/-- Stores into the struct. -/
theorem FM.rows_set (h : FM S w b n A Z X par sz nx sets steps) (off : Nat) (u : Value) : (w.setCell ⟨b, off, none⟩ u).ownsRow 0 3 1 A n (rowI n par) ∧ (w.setCell ⟨b, off, none⟩ u).ownsRow 0 3 1 Z n (rowI n sz) ∧ (w.setCell ⟨b, off, none⟩ u).ownsRow 0 3 1 X n (rowI n nx) :=
  ⟨ownsRow_setCell_other h.ra (row_ne h.ra h.blk (by decide)) u, ownsRow_setCell_other h.rz (row_ne h.rz h.blk (by decide)) u, ownsRow_setCell_other h.rx (row_ne h.rx h.blk (by decide)) u⟩
theorem FM.set3 (h : FM S w b n A Z X par sz nx sets steps) (s' : Int) : FM S (w.setCell ⟨b, 3, none⟩ (.int .i64 s')) b n A Z X par sz nx s' steps :=
  ⟨heap_setCell_same w b 3 _ _ _ h.blk, h.sb, (h.rows_set 3 _).1, (h.rows_set 3 _).2.1, (h.rows_set 3 _).2.2, h.sa, h.sz_, h.sx⟩
theorem FM.set4 (h : FM S w b n A Z X par sz nx sets steps) (s' : Int) : FM S (w.setCell ⟨b, 4, none⟩ (.int .i64 s')) b n A Z X par sz nx sets s' :=
  ⟨heap_setCell_same w b 4 _ _ _ h.blk, h.sb, (h.rows_set 4 _).1, (h.rows_set 4 _).2.1, (h.rows_set 4 _).2.2, h.sa, h.sz_, h.sx⟩
theorem blk_set {g : Nat} (h : FM S w b n A Z X par sz nx sets steps) (hg : b ≠ g) (i : Nat) (u : Value) : (w.setCell ⟨g, i, none⟩ u).heap[b]? = some (Obj.cells #[A, Z, X, .int .i64 sets, .int .i64 steps] 54) :=
  (Below.heap_setCell _ _ _ _ (by simpa using hg)).trans h.blk
theorem FM.setA {ga c : Nat} (h : FM S w b n (.slice (some ⟨ga, 0, none⟩) n c) Z X par sz nx sets steps) (i v : Nat) : FM S (w.setCell ⟨ga, i, none⟩ (.int .i64 v)) b n (.slice (some ⟨ga, 0, none⟩) n c) Z X (upd par i v) sz nx sets steps := by
  have hs := h.sa ga rfl
  refine ⟨blk_set h (fun e => row_ne h.ra h.blk (by decide) (by rw [e]; rfl)) i _, h.sb, ?_, ownsRow_setCell_other h.rz hs.2.1 _, ownsRow_setCell_other h.rx hs.2.2 _, h.sa, h.sz_, h.sx⟩
  rw [← rowI_set]
  exact (h.ra.stored i _).1
theorem FM.setZ {ga c : Nat} (h : FM S w b n A (.slice (some ⟨ga, 0, none⟩) n c) X par sz nx sets steps) (i v : Nat) : FM S (w.setCell ⟨ga, i, none⟩ (.int .i64 v)) b n A (.slice (some ⟨ga, 0, none⟩) n c) X par (upd sz i v) nx sets steps := by
  have hs := h.sz_ ga rfl
  refine ⟨blk_set h (fun e => row_ne h.rz h.blk (by decide) (by rw [e]; rfl)) i _, h.sb, ownsRow_setCell_other h.ra (fun e => (h.sa ga e).2.1 rfl) _, ?_, ownsRow_setCell_other h.rx hs.2 _, h.sa, h.sz_, h.sx⟩
  rw [← rowI_set]
  exact (h.rz.stored i _).1
theorem FM.setX {ga c : Nat} (h : FM S w b n A Z (.slice (some ⟨ga, 0, none⟩) n c) par sz nx sets steps) (i v : Nat) : FM S (w.setCell ⟨ga, i, none⟩ (.int .i64 v)) b n A Z (.slice (some ⟨ga, 0, none⟩) n c) par sz (upd nx i v) sets steps := by
  refine ⟨blk_set h (fun e => row_ne h.rx h.blk (by decide) (by rw [e]; rfl)) i _, h.sb, ownsRow_setCell_other h.ra (fun e => (h.sa ga e).2.2 rfl) _, ownsRow_setCell_other h.rz (fun e => (h.sz_ ga e).2 rfl) _, ?_, h.sa, h.sz_, h.sx⟩
  rw [← rowI_set]
  exact (h.rx.stored i _).1
end
end Go.Proofs.Ytamieophdnnbnaa.Un
