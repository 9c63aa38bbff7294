/- Texts of one proof, one behind the other. -/
import Derived.Test.YtifdbmdfkhnojaaDoorMgSubstApplies4
import Derived.Test.YtifdbmdfkhnojaaDoorMgSubstApplies1
import Derived.Test.YtifdbmdfkhnojaaDoorMgSubstApplies3
/- types.Size, types.Right, types.Has. -/
namespace Go.Proofs.YtifdbmdfkhnojaaDoor
open Go.RowKit Go.Shelf
attribute [local go_sem] Oper.semAt_some

theorem results_box {P : Program} {fn : Func} {p : Tmp} {ty : TypeId} (h : fn.results = #[.cell p ty]) (tmps : Array Value) (w : World) (g : Nat) (v : Value)
    (hp : tmps.getD p undef = .pointer (some ⟨g, 0, none⟩)) (hl : (loadVar ty ⟨g, 0, none⟩).run P w = .ok v w) : (results fn tmps).run P w = .ok v w := by
  have hp' : tmps[p]?.getD undef = .pointer (some ⟨g, 0, none⟩) := by simpa using hp
  simp [results, h, hp', asAddr, hl]
/-- A type, loaded. -/
theorem load_ty {w : World} {g : Nat} {k n : Int} {u : Sl} (h0 : w.cell? ⟨g, 0, none⟩ = some (.int .i64 k)) (h1 : w.cell? ⟨g, 1, none⟩ = some (.int .i64 n)) (h2 : w.cell? ⟨g, 2, none⟩ = some (slv u)) : (loadVar 25 ⟨g, 0, none⟩).run Tryd.prog w = .ok (tyVal k n (slv u)) w := by
  unfold slv at h2
  unfold tyVal slv
  go_simp
theorem below_own {β : Type} {B C : Nat} {w : World} (hC : C ≤ B) (hw : C ≤ w.heap.size) : OwnFrom B (fun (_ : β) W => Below C w W) := by
  intro s X Y row hs hg hr
  refine ⟨hg.os.trans hs.os, hg.tape.trans hs.tape, hg.output.trans hs.output, Nat.le_trans hs.size hg.size, fun k hk => ?_⟩
  exact (hg.block k (Nat.lt_of_lt_of_le hk (Nat.le_trans hw hs.size)) (fun e => by have := (hr k e.symm).1; omega)).trans (hs.block k hk)
theorem below_ab {β : Type} {B C : Nat} {t : TypeId} {w : World} (hC : C ≤ B) (hw : C ≤ w.heap.size) : AbC B t (fun (_ : β) W => Below C w W) := fun _ _ _ hs hc => hs.trans (hc.below hC (Nat.le_trans hw hs.size))
theorem box_ab {β : Type} {B b : Nat} {t u : TypeId} {f : β → Value} (hne : u ≠ t) : AbC B t (fun s W => Boxed W b u (f s)) := fun _ _ _ hs hc => hc.box hne hs
theorem KpC.box {B b : Nat} {W : World} {u : TypeId} {v : Value} (hb : Boxed W b u v) (hne : u ≠ 25) (hB : B ≤ b) (hw : B ≤ W.heap.size) (v' : Value) : KpC B W (W.setCell ⟨b, 0, none⟩ v') := by
  have hg := grownBy_setCell' W b v'
  refine ⟨(Below.refl B W).grown hg hw (fun k e => by cases e; exact hB), fun k cs hk => (hg.block k (Array.getElem?_eq_some_iff.1 hk).1 fun e => ?_).trans hk⟩
  cases e
  rw [show W.heap[b]? = _ from hb] at hk
  cases hk
  exact hne rfl
/-- One type, laid as a list, and boxed. -/
theorem one_laid {B : Nat} {w : World} (k n : Int) (u : Sl) (ps : Fo) (hB : B ≤ w.heap.size) (hps : TyV B w ps (slv u)) :
    ∃ W, (w.alloc (.cells #[.int .i64 k, .int .i64 n, slv u] 25)).alloc (.cells #[.slice (some ⟨w.heap.size, 0, none⟩) 1 1] 23) = W ∧ W.heap.size = w.heap.size + 1 + 1 ∧
      Boxed W (w.heap.size + 1) 23 (.slice (some ⟨w.heap.size, 0, none⟩) 1 1) ∧ RdX W.heap.size W (.slice (some ⟨w.heap.size, 0, none⟩) 1 1) (Fo.cons k n u ps .nil).top ∧ TyL B W (.cons k n u ps .nil) ∧ Below w.heap.size w W := by
  have hb : Below w.heap.size w ((w.alloc (.cells #[.int .i64 k, .int .i64 n, slv u] 25)).alloc (.cells #[.slice (some ⟨w.heap.size, 0, none⟩) 1 1] 23)) := ((Below.refl _ w).alloc (Nat.le_refl _) _).alloc (by simp) _
  refine ⟨_, rfl, by simp, ?_, ?_, ⟨hps.below (hb.mono hB), trivial⟩, hb⟩
  · have := Boxed.new (w.alloc (.cells #[.int .i64 k, .int .i64 n, slv u] 25)) 23 (.slice (some ⟨w.heap.size, 0, none⟩) 1 1)
    rwa [World.size_alloc] at this
  · refine ⟨_, 1, rfl, fun _ => ⟨w.heap.size, 0, rfl, by simp only [World.size_alloc]; omega, fun i hi => ?_⟩⟩
    obtain rfl : i = 0 := by simp [Fo.top] at hi; omega
    simp only [Fo.top, List.getElem_cons_zero, Nat.zero_mul, Nat.add_zero, Nat.zero_add]
    have hc : ∀ (j : Nat) (v : Value), [Value.int .i64 k, .int .i64 n, slv u][j]? = some v → ((w.alloc (.cells #[.int .i64 k, .int .i64 n, slv u] 25)).alloc (.cells #[.slice (some ⟨w.heap.size, 0, none⟩) 1 1] 23)).cell? ⟨w.heap.size, j, none⟩ = some v := by
      intro j v hv
      have h1 := cells_new w [.int .i64 k, .int .i64 n, slv u] 25 j v hv
      rw [add_lit0] at h1
      exact (((Below.refl (w.heap.size + 1) (w.alloc (.cells #[.int .i64 k, .int .i64 n, slv u] 25))).alloc (by simp) _).cell (p := ⟨w.heap.size, j, none⟩) (by simp)).trans h1
    exact ⟨hc 0 _ rfl, hc 1 _ rfl, hc 2 _ rfl⟩
set_option maxRecDepth 100000 in
set_option maxHeartbeats 2000000 in
theorem size_any (w : World) (B : Nat) (k n : Int) (u : Sl) (ps : Fo) (hB : B ≤ w.heap.size) (hps : TyV B w ps (slv u)) (hs : ps.size < 1000000) :
    Calls Tryd.prog 46 #[tyVal k n (slv u)] w fun e w' => e = .returned (.int .i64 (1 + ps.size)) ∧ Below w.heap.size w w' := by
  obtain ⟨u1, u2, u3⟩ := u
  dsimp only [tyVal, slv] at hps ⊢
  refine (callsIn_wide (n := 4)).1 ?_
  refine callsIn_of_wp_marks Tryd.func46 rfl trivial ?_ rfl
  simp only [Tryd.ntmps46, List.size_toArray, List.length_cons, List.length_nil, Nat.reduceAdd, Nat.reduceSub, Array.replicate_succ, Array.replicate_zero, List.push_toArray, List.append_toArray, List.nil_append, List.cons_append]
  gi_wp2_with (refine ⟨trivial, ?_⟩; gi_at_call 59; refine (callsIn_wide.2 (all_make _ 1 1 _)).mono ?_; rintro e w' ⟨rfl, rfl⟩)
  obtain ⟨wa, hwa⟩ : ∃ wa, (w.alloc (Obj.cells #[.int .i64 k, .int .i64 n, .slice u1 u2 u3] 25)).alloc (Obj.cells #[.int .i64 0] 3) = wa := ⟨_, rfl⟩
  have hsa : wa.heap.size = w.heap.size + 1 + 1 := by rw [← hwa]; simp
  have hba : Below w.heap.size w wa := by rw [← hwa]; exact ((Below.refl _ w).alloc (Nat.le_refl _) _).alloc (by simp) _
  have bz : Boxed wa (w.heap.size + 1) 3 (.int .i64 0) := by
    rw [← hwa]
    have := Boxed.new (w.alloc (Obj.cells #[.int .i64 k, .int .i64 n, .slice u1 u2 u3] 25)) 3 (.int .i64 0)
    rwa [World.size_alloc] at this
  obtain ⟨w4, hw4, hs4, hbx, hrd, hTL, hb4⟩ := one_laid (w := wa) (B := B) k n (u1, u2, u3) ps (by omega) (hps.below (hba.mono hB))
  dsimp only [slv] at hw4
  rw [hwa, ← hsa, hw4]
  have bz4 : Boxed w4 (w.heap.size + 1) 3 (.int .i64 0) := (hb4.block _ (by omega)).trans bz
  have hb04 : Below w.heap.size w w4 := hba.trans (hb4.mono (by omega))
  have hf : (Fo.cons k n (u1, u2, u3) ps .nil).size = 1 + ps.size := by simp [Fo.size]
  refine wpIn_rangeC (by omega) (gf := 73) (lb := #[.pointer (some ⟨wa.heap.size + 1, 0, none⟩)]) rfl (enters_of Tryd.func73 (by kernel_rfl) rfl)
    (all_seq 3 (by omega) (wa.heap.size + 1) B _ (.cons k n (u1, u2, u3) ps .nil) (by omega) w4 (by omega) hbx hrd hTL) (Below.refl _ _) KpC.t (KpC.b (by omega)) (fun _ => rfl)
    (fun pre W => Boxed W (w.heap.size + 1) 3 (.int .i64 pre.length) ∧ Below w.heap.size w W) (fun _ _ _ => False)
    (OwnFrom.and (Own.from (boxed_own _ _ (fun pre : List Tr => .int .i64 pre.length)) _) (below_own (by omega) (Nat.le_refl _))) (fun _ _ _ _ _ hs _ _ => hs)
    (AbC.and (box_ab (by decide)) (below_ab (by omega) (Nat.le_refl _))) (fun _ _ _ _ hs _ => hs)
    ⟨bz4, hb04⟩
    (fun x a' _ => a' = { tmps := #[tyVal k n (.slice u1 u2 u3), .pointer (some ⟨w.heap.size, 0, none⟩), .int .i64 0, .pointer (some ⟨w.heap.size + 1, 0, none⟩), tyVal k n (.slice u1 u2 u3), .slice (some ⟨wa.heap.size, 0, none⟩) 1 1, .func (.func 73) #[] #[.pointer (some ⟨wa.heap.size + 1, 0, none⟩)], trV x, undef, undef, undef], defers := [] })
    (fun _ _ _ _ _ _ hs _ _ => hs) ?assign ?body ?done ?stop
  case assign =>
    rintro l pre x W K hi hK
    gi_wp2
    exact hK _ _ (KeepsFrom.refl _ _) ⟨Below.refl _ _, fun _ _ h => h⟩ hi (by simp [tyVal])
  case body =>
    rintro l pre x a' W hl ⟨hbz, hbw⟩ rfl hlt
    have bc := hbz.cell
    have bf := hbz.frozen
    rw [hf] at hlt
    gi_wp2
    refine ⟨(KeepsOthers.setCell _ _ _).from _, KpC.box hbz (by decide) (by omega) (Nat.le_trans hB hbw.size) _, ?_, hbw.trans ((Below.refl _ _).grown (grownBy_setCell' W (w.heap.size + 1) _) hbw.size (fun k e => by cases e; omega))⟩
    rw [List.length_append, List.length_singleton, Int.natCast_add, Int.natCast_one]
    exact hbz.set _
  case done =>
    rintro D ys W hD rfl ⟨hbz, hbw⟩ hK
    rw [Fo.pre_len, hf] at hbz
    have bc := hbz.cell
    gi_wp2
    refine ⟨by simp, .inl ⟨_, _, rfl, run_takeDeferred hK, ?_⟩⟩
    have hgp := grownBy_putObj' W D (.deferred none)
    refine ⟨_, results_tmp rfl _ _ _, ?_, hbw.trans ((Below.refl _ _).grown hgp hbw.size (fun k e => by cases e; omega))⟩
    simp
  case stop =>
    rintro D c pre W _ _ h _
    exact h.elim
end Go.Proofs.YtifdbmdfkhnojaaDoor
/- The answer's Depth. -/
namespace Go.Proofs.YtifdbmdfkhnojaaDoor
open Go.RowKit

namespace Fo
theorem depth_app (f g : Fo) : (f.app g).depth = max f.depth g.depth := by
  induction f with
  | nil => simp [app, depth]
  | cons k n u ps r _ ih => simp [app, depth, ih] <;> omega
theorem depth_le_size (f : Fo) : f.depth ≤ f.size := by
  induction f with
  | nil => simp [depth]
  | cons k n u ps r ih1 ih2 => simp only [depth, size]; omega
theorem depth_take_step (f : Fo) (j : Nat) (hj : j < f.len) : (f.take (j + 1)).depth = max (f.take j).depth (1 + (f.at_ j).2.2.2.depth) := by
  rw [take_step f j hj, depth_app]
  simp [depth]
theorem depth_take_le (f : Fo) (j : Nat) : (f.take j).depth ≤ f.depth := by
  induction f generalizing j with
  | nil => cases j <;> simp [take]
  | cons k n u ps r _ ih =>
    cases j with
    | zero => simp [take, depth]
    | succ j => have := ih j; simp only [take, depth]; omega
end Fo
end Go.Proofs.YtifdbmdfkhnojaaDoor
/- types.Depth: level by level: the plain facts. -/
namespace Go.Proofs.YtifdbmdfkhnojaaDoor
open Go.RowKit
namespace Fo
/-- The parts of a list's types, one behind the other. -/
def kids : Fo → Fo
  | nil => nil
  | cons _ _ _ ps r => ps.app r.kids
theorem kids_app (f g : Fo) : (f.app g).kids = f.kids.app g.kids := by
  induction f with
  | nil => rfl
  | cons k n u ps r _ ih => simp [app, kids, ih, app_assoc]
theorem size_kids (f : Fo) : f.size = f.len + f.kids.size := by
  induction f with
  | nil => rfl
  | cons k n u ps r _ ih => simp only [size, len, kids, size_app]; omega
theorem depth_kids (f : Fo) : (f.len = 0 → f.depth = 0) ∧ (0 < f.len → f.depth = 1 + f.kids.depth) := by
  induction f with
  | nil => exact ⟨fun _ => rfl, fun h => absurd h (Nat.lt_irrefl 0)⟩
  | cons k n u ps r _ ih =>
    refine ⟨fun h => by simp [len] at h, fun _ => ?_⟩
    simp only [depth, kids, depth_app]
    rcases Nat.eq_zero_or_pos r.len with h0 | h0
    · have h1 := ih.1 h0
      have h2 : r.kids.depth = 0 := by
        cases r with
        | nil => rfl
        | cons => simp [len] at h0
      omega
    · have h1 := ih.2 h0
      omega
theorem kids_take (f : Fo) (j : Nat) (hj : j < f.len) : (f.take (j + 1)).kids = (f.take j).kids.app (f.at_ j).2.2.2 := by
  rw [take_step f j hj, kids_app]
  simp [kids, app_nil]
end Fo
theorem TyL.kids {B : Nat} {w : World} {f : Fo} (h : TyL B w f) : TyL B w f.kids := by
  induction f with
  | nil => trivial
  | cons _ _ _ ps r _ ih => exact (h.1.list).app (ih h.2)
/-- A slice of types reads as its cells. -/
theorem TyV.rd3 {B : Nat} {w : World} {f : Fo} {v : Value} (hB : B ≤ w.heap.size) (h : TyV B w f v) : Rd w 3 v f.len (f.top.flatMap trC) := by
  refine ⟨by rw [trC_len, Fo.top_len], ?_⟩
  rcases Nat.eq_zero_or_pos f.len with h0 | h0
  · obtain ⟨A, c, hv⟩ := h.slice
    exact .inl ⟨h0, A, c, by rw [hv, h0]⟩
  · obtain ⟨b, off, cap, hv, h1, h2, h3, hC⟩ := h.form h0
    refine .inr ⟨b, off, cap, hv, h1, h2, by omega, ?_⟩
    clear hv h1 h2 h0 h
    induction f generalizing off with
    | nil => intro j u hu; simp [Fo.top] at hu
    | cons k n u ps r _ ih =>
      obtain ⟨c0, c1, c2, _, hr⟩ := tyC_cons.1 hC
      intro j x hx
      simp only [Fo.top, List.flatMap_cons, trC, List.cons_append, List.nil_append] at hx
      match j, hx with
      | 0, hx => simp at hx; subst hx; exact c0
      | 1, hx => simp at hx; subst hx; exact c1
      | 2, hx => simp at hx; subst hx; exact c2
      | j + 3, hx =>
        simp only [List.getElem?_cons_succ] at hx
        have := ih (off + 3) hr j x hx
        rwa [show off + (j + 3) = off + 3 + j by omega]
end Go.Proofs.YtifdbmdfkhnojaaDoor
/- types.Depth. -/
namespace Go.Proofs.YtifdbmdfkhnojaaDoor
open Go.RowKit
attribute [local go_sem ↓] builtin_app
theorem trC_one (L : List Tr) : ∀ u ∈ L.flatMap trC, u.oneCell' = true := by
  intro u hu
  obtain ⟨x, _, hx⟩ := List.mem_flatMap.1 hu
  simp only [trC, List.mem_cons, List.not_mem_nil, or_false] at hx
  rcases hx with rfl | rfl | rfl <;> rfl
theorem top_at (F : Fo) (j : Nat) (hj : j < F.len) : (F.top.flatMap trC)[j * 3]? = some (.int .i64 (F.at_ j).1) ∧ (F.top.flatMap trC)[j * 3 + 1]? = some (.int .i64 (F.at_ j).2.1) ∧ (F.top.flatMap trC)[j * 3 + 2]? = some (slv (F.at_ j).2.2.1) := by
  induction F generalizing j with
  | nil => simp [Fo.len] at hj
  | cons k n u ps r _ ih =>
    cases j with
    | zero => simp [Fo.top, trC, Fo.at_]
    | succ j =>
      have := ih j (by simp [Fo.len] at hj; omega)
      simp only [Fo.top, List.flatMap_cons, trC, Fo.at_, List.cons_append, List.nil_append]
      rw [show (j + 1) * 3 = j * 3 + 1 + 1 + 1 by omega]
      simp only [List.getElem?_cons_succ]
      exact this
theorem TyL.at {B : Nat} {w : World} {F : Fo} (h : TyL B w F) (j : Nat) (hj : j < F.len) : TyV B w (F.at_ j).2.2.2 (slv (F.at_ j).2.2.1) := by
  induction F generalizing j with
  | nil => simp [Fo.len] at hj
  | cons k n u ps r _ ih =>
    cases j with
    | zero => exact h.1
    | succ j => exact ih h.2 j (by simp [Fo.len] at hj; omega)
/-- Between two levels. -/
def DInv (w : World) (D N : Nat) (t3 t4 : Value) (wr : World) (s : Nat) : Prop :=
  ∃ (F : Fo) (d : Nat), F.size = s ∧ t3 = .int .i64 d ∧ d + F.depth = D ∧ F.size ≤ N ∧ Rd wr 3 t4 F.len (F.top.flatMap trC) ∧ TyL w.heap.size wr F ∧ Below w.heap.size w wr
end Go.Proofs.YtifdbmdfkhnojaaDoor
