/- union: New. -/
import Derived.Test.YtamieophdnnbnaaUnE
namespace Go.Proofs.Ytamieophdnnbnaa.Un
open Go.RowKit

theorem upd_id (k : Nat) : upd (fun j => j) k k = fun j => j := by
  funext j; unfold upd; split
  · rename_i h; exact h.symm
  · rfl
theorem forest_none (w : World) : UFo (fun k => w.heap.size ≤ k) (w.alloc (.cells #[.slice none 0 0, .slice none 0 0, .slice none 0 0, .int .i64 0, .int .i64 0] 54)) w.heap.size 0 (fun j => j) (fun j => j) 0 := by
  refine ⟨.slice none 0 0, .slice none 0 0, .slice none 0 0, fun j => j, fun _ => 1, fun j => j, fun _ => 0, ⟨heap_alloc_new w _, Nat.le_refl _, World.ownsRow_nil _ _ _ _, World.ownsRow_nil _ _ _ _, World.ownsRow_nil _ _ _ _, fun k hk => (by cases hk), fun k hk => (by cases hk), fun k hk => (by cases hk)⟩, UFr.alone 0, Rings.alone 0, by omega, fun i hi => by omega⟩
theorem UFo.tight {S : Nat → Prop} {w : World} {b n : Nat} {col ro : Nat → Nat} {steps : Int} (h : UFo S w b n col ro steps) : UFo (fun k => S k ∧ k < w.heap.size) w b n col ro steps := by
  obtain ⟨A, Z, X, par, sz, nx, rk, h1, h2⟩ := h
  exact ⟨A, Z, X, par, sz, nx, rk, ⟨h1.blk, ⟨h1.sb, h1.lt⟩, h1.ra, h1.rz, h1.rx, fun k hk => ⟨⟨(h1.sa k hk).1, (h1.ra.lt k hk).2⟩, (h1.sa k hk).2⟩, fun k hk => ⟨⟨(h1.sz_ k hk).1, (h1.rz.lt k hk).2⟩, (h1.sz_ k hk).2⟩, fun k hk => ⟨h1.sx k hk, (h1.rx.lt k hk).2⟩⟩, h2⟩
theorem UFo.more {S T : Nat → Prop} {w : World} {b n : Nat} {col ro : Nat → Nat} {steps : Int} (h : UFo S w b n col ro steps) (hst : ∀ k, S k → T k) : UFo T w b n col ro steps := by
  obtain ⟨A, Z, X, par, sz, nx, rk, h1, h2⟩ := h
  exact ⟨A, Z, X, par, sz, nx, rk, ⟨h1.blk, hst _ h1.sb, h1.ra, h1.rz, h1.rx, fun k hk => ⟨hst _ (h1.sa k hk).1, (h1.sa k hk).2⟩, fun k hk => ⟨hst _ (h1.sz_ k hk).1, (h1.sz_ k hk).2⟩, fun k hk => hst _ (h1.sx k hk)⟩, h2⟩
def intAt : Value → Int
  | .int _ n => n
  | _ => 0
set_option maxRecDepth 100000 in
set_option maxHeartbeats 1000000 in
theorem new_in (w : World) (n : Nat) (hn : n ≤ 1048576) :
    Calls Try.prog 9 #[.int .i64 (n : Nat)] w fun e w' => e = .returned (.tuple #[.pointer (some ⟨w.heap.size, 0, none⟩), .int .i64 0]) ∧ UFo (fun k => w.heap.size ≤ k ∧ k < w'.heap.size) w' w.heap.size n (fun j => j) (fun j => j) 0 ∧ Below w.heap.size w w' := by
  have f1 : decide ((n : Int) < 0) = false := decide_eq_false (by omega)
  have f2 : decide ((n : Int) > 1048576) = false := decide_eq_false (by omega)
  have f3 : decide ((1048576 : Int) < (n : Int)) = false := decide_eq_false (by omega)
  go_enter Try.func9, Try.ntmps9
  go_wp2_with fail
  go_loopw [14] (fun s wr => ∃ k : Nat, s = .int .i64 (k : Int) ∧ k ≤ n ∧ UFo (fun j => w.heap.size ≤ j) wr w.heap.size k (fun j => j) (fun j => j) 0 ∧ Below w.heap.size w wr) (fun s _ => ((n : Int) - intAt s).toNat)
  case atStart => exact ⟨0, rfl, by omega, forest_none w, (Below.refl _ _).alloc (Nat.le_refl _) _⟩
  case round =>
    obtain ⟨k, rfl, hk, hU, hB⟩ := hrel
    by_cases hkn : k < n
    · have g1 : decide ((k : Int) < (n : Int)) = true := decide_eq_true (by omega)
      have HA := add_uf hU (by omega) k (fun j hj => by omega)
      rw [upd_id] at HA
      have HB := Lib.hid hB
      clear hU hB
      go_wp2_with fail
      refine HA.mono ?_
      rintro e w2 ⟨rfl, hU2, hE⟩
      have hb2 : Below w.heap.size w w2 := HB.out.trans (hE.below (fun k hk => hk) HB.out.size)
      have HF := Lib.hid (And.intro (hU2.more fun k hk => by rcases hk with hk | hk; exact hk; have := HB.out.size; omega) hb2)
      clear hU2 hE hb2
      go_wp2_with fail
      go_roundw
      case rel => exact ⟨k + 1, by go_num, by omega, HF.out.1, HF.out.2⟩
      case measure =>
        simp only [intAt]
        omega
    · have g1 : decide ((k : Int) < (n : Int)) = false := decide_eq_false (by omega)
      obtain rfl : k = n := by omega
      have HF := Lib.hid (And.intro hU hB)
      clear hU hB
      go_wp2_with fail
      go_ret2
      exact ⟨rfl, HF.out.1.tight, HF.out.2⟩
end Go.Proofs.Ytamieophdnnbnaa.Un
