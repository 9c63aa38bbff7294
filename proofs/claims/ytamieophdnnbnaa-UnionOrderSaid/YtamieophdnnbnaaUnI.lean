/- Two forests beside each other. -/
import Derived.Test.YtamieophdnnbnaaUnU
namespace Go.Proofs.Ytamieophdnnbnaa.Un
open Go.RowKit

def Two (w : World) (u v m : Nat) (cf cg : Nat → Nat) (N : Int) (wr : World) : Prop :=
  ∃ (rf rg : Nat → Nat) (sf sg : Int), UFo (fun k => w.heap.size ≤ k ∧ k < u) wr w.heap.size m cf rf sf ∧ UFo (fun k => u ≤ k ∧ k < v) wr u m cg rg sg ∧ (0 ≤ sf ∧ sf ≤ N) ∧ (0 ≤ sg ∧ sg ≤ N) ∧ Below w.heap.size w wr ∧ v ≤ wr.heap.size
section
variable {w wr : World} {u v m : Nat} {cf cg : Nat → Nat} {N : Int}
theorem Two.start {w1 w2 : World} (h1 : UFo (fun k => w.heap.size ≤ k ∧ k < w1.heap.size) w1 w.heap.size m (fun j => j) (fun j => j) 0) (b1 : Below w.heap.size w w1) (h2 : UFo (fun k => w1.heap.size ≤ k ∧ k < w2.heap.size) w2 w1.heap.size m (fun j => j) (fun j => j) 0) (b2 : Below w1.heap.size w1 w2) :
    Two w w1.heap.size w2.heap.size m (fun j => j) (fun j => j) 0 w2 :=
  ⟨fun j => j, fun j => j, 0, 0, h1.below b2, h2, by omega, by omega, b1.trans (b2.mono b1.size), Nat.le_refl _⟩
theorem Two.below {w' : World} (h : Two w u v m cf cg N wr) (hb : Below wr.heap.size wr w') : Two w u v m cf cg N w' := by
  obtain ⟨rf, rg, sf, sg, h1, h2, h3, h4, h5, h6⟩ := h
  exact ⟨rf, rg, sf, sg, h1.below hb, h2.below hb, h3, h4, h5.trans (hb.mono h5.size), Nat.le_trans h6 hb.size⟩
theorem Two.more {M : Int} (h : Two w u v m cf cg N wr) (hM : N ≤ M) : Two w u v m cf cg M wr := by
  obtain ⟨rf, rg, sf, sg, h1, h2, h3, h4, h5, h6⟩ := h
  exact ⟨rf, rg, sf, sg, h1, h2, by omega, by omega, h5, h6⟩
theorem Two.bel (h : Two w u v m cf cg N wr) : Below w.heap.size w wr := by
  obtain ⟨rf, rg, sf, sg, h1, h2, h3, h4, h5, h6⟩ := h; exact h5
theorem Two.joinF (h : Two w u v m cf cg N wr) (hN : N ≤ 1000000000) (hu : w.heap.size ≤ u) (x y : Nat) (hx : x < m) (hy : y < m) :
    Calls Try.prog 12 #[.pointer (some ⟨w.heap.size, 0, none⟩), .int .i64 (x : Nat), .int .i64 (y : Nat)] wr fun e w' => ∃ r t, e = .returned (.tuple #[.int .i64 r, .bool t]) ∧ Two w u v m (paint cf x y) cg (N + 42) w' := by
  obtain ⟨rf, rg, sf, sg, h1, h2, h3, h4, h5, h6⟩ := h
  have hd := dg_le h1.few
  refine (join_in h1 (by omega) x y hx hy).mono ?_
  rintro e w' ⟨r, k, ro, rfl, _, _, hk, hU, hE⟩
  exact ⟨_, _, rfl, ro, rg, _, sg, hU, h2.keep hE (fun k hk hk2 => by omega), by omega, by omega, h5.trans (hE.below (fun k hk => hk.1) h5.size), Nat.le_trans h6 hE.size⟩
theorem Two.joinG (h : Two w u v m cf cg N wr) (hN : N ≤ 1000000000) (hu : w.heap.size ≤ u) (x y : Nat) (hx : x < m) (hy : y < m) :
    Calls Try.prog 12 #[.pointer (some ⟨u, 0, none⟩), .int .i64 (x : Nat), .int .i64 (y : Nat)] wr fun e w' => ∃ r t, e = .returned (.tuple #[.int .i64 r, .bool t]) ∧ Two w u v m cf (paint cg x y) (N + 42) w' := by
  obtain ⟨rf, rg, sf, sg, h1, h2, h3, h4, h5, h6⟩ := h
  have hd := dg_le h1.few
  refine (join_in h2 (by omega) x y hx hy).mono ?_
  rintro e w' ⟨r, k, ro, rfl, _, _, hk, hU, hE⟩
  exact ⟨_, _, rfl, rf, ro, sf, _, h1.keep hE (fun k hk hk2 => by omega), hU, by omega, by omega, h5.trans (hE.below (fun k hk => by omega) h5.size), Nat.le_trans h6 hE.size⟩
theorem Two.sameF (h : Two w u v m cf cg N wr) (hN : N ≤ 1000000000) (hu : w.heap.size ≤ u) (x y : Nat) (hx : x < m) (hy : y < m) :
    Calls Try.prog 20 #[.pointer (some ⟨w.heap.size, 0, none⟩), .int .i64 (x : Nat), .int .i64 (y : Nat)] wr fun e w' => e = .returned (.bool (cf x == cf y)) ∧ Two w u v m cf cg (N + 42) w' := by
  obtain ⟨rf, rg, sf, sg, h1, h2, h3, h4, h5, h6⟩ := h
  have hd := dg_le h1.few
  refine (same_in h1 (by omega) x y hx hy).mono ?_
  rintro e w' ⟨k, rfl, hk, hU, hE⟩
  exact ⟨rfl, rf, rg, _, sg, hU, h2.keep hE (fun k hk hk2 => by omega), by omega, by omega, h5.trans (hE.below (fun k hk => hk.1) h5.size), Nat.le_trans h6 hE.size⟩
theorem Two.sameG (h : Two w u v m cf cg N wr) (hN : N ≤ 1000000000) (hu : w.heap.size ≤ u) (x y : Nat) (hx : x < m) (hy : y < m) :
    Calls Try.prog 20 #[.pointer (some ⟨u, 0, none⟩), .int .i64 (x : Nat), .int .i64 (y : Nat)] wr fun e w' => e = .returned (.bool (cg x == cg y)) ∧ Two w u v m cf cg (N + 42) w' := by
  obtain ⟨rf, rg, sf, sg, h1, h2, h3, h4, h5, h6⟩ := h
  have hd := dg_le h1.few
  refine (same_in h2 (by omega) x y hx hy).mono ?_
  rintro e w' ⟨k, rfl, hk, hU, hE⟩
  exact ⟨rfl, rf, rg, sf, _, h1.keep hE (fun k hk hk2 => by omega), hU, by omega, by omega, h5.trans (hE.below (fun k hk => by omega) h5.size), Nat.le_trans h6 hE.size⟩
theorem Two.setsF (h : Two w u v m cf cg N wr) :
    Calls Try.prog 22 #[.pointer (some ⟨w.heap.size, 0, none⟩)] wr fun e w' => e = .returned (.int .i64 (cnt m cf : Nat)) ∧ w' = wr := by
  obtain ⟨rf, rg, sf, sg, h1, h2, h3, h4, h5, h6⟩ := h
  exact sets_uf h1
theorem Two.setsG (h : Two w u v m cf cg N wr) :
    Calls Try.prog 22 #[.pointer (some ⟨u, 0, none⟩)] wr fun e w' => e = .returned (.int .i64 (cnt m cg : Nat)) ∧ w' = wr := by
  obtain ⟨rf, rg, sf, sg, h1, h2, h3, h4, h5, h6⟩ := h
  exact sets_uf h2
end
/-- A pair, within the forest. -/
def pr (m : Nat) (p : Nat × Nat) : Nat × Nat := (p.1 % m, p.2 % m)
end Go.Proofs.Ytamieophdnnbnaa.Un
