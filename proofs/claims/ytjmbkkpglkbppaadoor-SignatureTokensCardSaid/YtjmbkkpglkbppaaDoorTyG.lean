/- types.Size, types.Right, types.Has. -/
import Derived.Test.YtjmbkkpglkbppaaDoorTyF
namespace Go.Proofs.YtjmbkkpglkbppaaDoor
open Go.RowKit Go.Shelf
attribute [local go_sem] Oper.semAt_some

theorem results_box {P : Program} {fn : Func} {p : Tmp} {ty : TypeId} (h : fn.results = #[.cell p ty]) (tmps : Array Value) (w : World) (g : Nat) (v : Value)
    (hp : tmps.getD p undef = .pointer (some ⟨g, 0, none⟩)) (hl : (loadVar ty ⟨g, 0, none⟩).run P w = .ok v w) : (results fn tmps).run P w = .ok v w := by
  have hp' : tmps[p]?.getD undef = .pointer (some ⟨g, 0, none⟩) := by simpa using hp
  simp [results, h, hp', asAddr, hl]
/-- A type, loaded. -/
theorem load_ty {w : World} {g : Nat} {k n : Int} {u : Sl} (h0 : w.cell? ⟨g, 0, none⟩ = some (.int .i64 k)) (h1 : w.cell? ⟨g, 1, none⟩ = some (.int .i64 n)) (h2 : w.cell? ⟨g, 2, none⟩ = some (slv u)) : (loadVar 28 ⟨g, 0, none⟩).run Tryd.prog w = .ok (tyVal k n (slv u)) w := by
  unfold slv at h2
  unfold tyVal slv
  go_simp
theorem below_own {β : Type} {B C : Nat} {w : World} (hC : C ≤ B) (hw : C ≤ w.heap.size) : OwnFrom B (fun (_ : β) W => Below C w W) := by
  intro s X Y row hs hg hr
  refine ⟨hg.os.trans hs.os, hg.tape.trans hs.tape, hg.output.trans hs.output, Nat.le_trans hs.size hg.size, fun k hk => ?_⟩
  exact (hg.block k (Nat.lt_of_lt_of_le hk (Nat.le_trans hw hs.size)) (fun e => by have := (hr k e.symm).1; omega)).trans (hs.block k hk)
theorem below_ab {β : Type} {B C : Nat} {t : TypeId} {w : World} (hC : C ≤ B) (hw : C ≤ w.heap.size) : AbC B t (fun (_ : β) W => Below C w W) := fun _ _ _ hs hc => hs.trans (hc.below hC (Nat.le_trans hw hs.size))
theorem box_ab {β : Type} {B b : Nat} {t u : TypeId} {f : β → Value} (hne : u ≠ t) : AbC B t (fun s W => Boxed W b u (f s)) := fun _ _ _ hs hc => hc.box hne hs
theorem KpC.box {B b : Nat} {W : World} {u : TypeId} {v : Value} (hb : Boxed W b u v) (hne : u ≠ 28) (hB : B ≤ b) (hw : B ≤ W.heap.size) (v' : Value) : KpC B W (W.setCell ⟨b, 0, none⟩ v') := by
  have hg := grownBy_setCell' W b v'
  refine ⟨(Below.refl B W).grown hg hw (fun k e => by cases e; exact hB), fun k cs hk => (hg.block k (Array.getElem?_eq_some_iff.1 hk).1 fun e => ?_).trans hk⟩
  cases e
  rw [show W.heap[b]? = _ from hb] at hk
  cases hk
  exact hne rfl
/-- One type, laid as a list, and boxed. -/
theorem one_laid {B : Nat} {w : World} (k n : Int) (u : Sl) (ps : Fo) (hB : B ≤ w.heap.size) (hps : TyV B w ps (slv u)) :
    ∃ W, (w.alloc (.cells #[.int .i64 k, .int .i64 n, slv u] 28)).alloc (.cells #[.slice (some ⟨w.heap.size, 0, none⟩) 1 1] 26) = W ∧ W.heap.size = w.heap.size + 1 + 1 ∧
      Boxed W (w.heap.size + 1) 26 (.slice (some ⟨w.heap.size, 0, none⟩) 1 1) ∧ RdX W.heap.size W (.slice (some ⟨w.heap.size, 0, none⟩) 1 1) (Fo.cons k n u ps .nil).top ∧ TyL B W (.cons k n u ps .nil) ∧ Below w.heap.size w W := by
  have hb : Below w.heap.size w ((w.alloc (.cells #[.int .i64 k, .int .i64 n, slv u] 28)).alloc (.cells #[.slice (some ⟨w.heap.size, 0, none⟩) 1 1] 26)) := ((Below.refl _ w).alloc (Nat.le_refl _) _).alloc (by simp) _
  refine ⟨_, rfl, by simp, ?_, ?_, ⟨hps.below (hb.mono hB), trivial⟩, hb⟩
  · have := Boxed.new (w.alloc (.cells #[.int .i64 k, .int .i64 n, slv u] 28)) 26 (.slice (some ⟨w.heap.size, 0, none⟩) 1 1)
    rwa [World.size_alloc] at this
  · refine ⟨_, 1, rfl, fun _ => ⟨w.heap.size, 0, rfl, by simp only [World.size_alloc]; omega, fun i hi => ?_⟩⟩
    obtain rfl : i = 0 := by simp [Fo.top] at hi; omega
    simp only [Fo.top, List.getElem_cons_zero, Nat.zero_mul, Nat.add_zero, Nat.zero_add]
    have hc : ∀ (j : Nat) (v : Value), [Value.int .i64 k, .int .i64 n, slv u][j]? = some v → ((w.alloc (.cells #[.int .i64 k, .int .i64 n, slv u] 28)).alloc (.cells #[.slice (some ⟨w.heap.size, 0, none⟩) 1 1] 26)).cell? ⟨w.heap.size, j, none⟩ = some v := by
      intro j v hv
      have h1 := cells_new w [.int .i64 k, .int .i64 n, slv u] 28 j v hv
      rw [add_lit0] at h1
      exact (((Below.refl (w.heap.size + 1) (w.alloc (.cells #[.int .i64 k, .int .i64 n, slv u] 28))).alloc (by simp) _).cell (p := ⟨w.heap.size, j, none⟩) (by simp)).trans h1
    exact ⟨hc 0 _ rfl, hc 1 _ rfl, hc 2 _ rfl⟩
end Go.Proofs.YtjmbkkpglkbppaaDoor
