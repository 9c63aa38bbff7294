/- types.Right, types.Has. -/
import Derived.Test.YtjmbkkpglkbppaaDoorTyG
import Derived.Test.YtjmbkkpglkbppaaDoorTyH
namespace Go.Proofs.YtjmbkkpglkbppaaDoor
open Go.RowKit Go.Shelf
attribute [local go_sem] Oper.semAt_some

/-- Is every one of them a type, its parts left aside? -/
def allAlone (l : List Tr) : Bool := l.all fun x => alone x.1 x.2.1 x.2.2.2.1
theorem load_bool {w : World} {g : Nat} {b : Bool} (h : w.cell? ⟨g, 0, none⟩ = some (.bool b)) : (loadVar 4 ⟨g, 0, none⟩).run Tryd.prog w = .ok (.bool b) w := by
  go_simp
set_option maxRecDepth 100000 in
set_option maxHeartbeats 2000000 in
theorem right_any (w : World) (B : Nat) (k n : Int) (u : Sl) (ps : Fo) (hB : B ≤ w.heap.size) (hps : TyV B w ps (slv u)) (hs : ps.size < 1000000) :
    Calls Tryd.prog 25 #[tyVal k n (slv u)] w fun e w' => e = .returned (.bool (allAlone (Fo.cons k n u ps .nil).pre)) ∧ Below w.heap.size w w' := by
  obtain ⟨u1, u2, u3⟩ := u
  dsimp only [tyVal, slv] at hps ⊢
  refine (callsIn_wide (n := 4)).1 ?_
  refine callsIn_of_wp_marks Tryd.func25 rfl trivial ?_ rfl
  simp only [Tryd.ntmps25, List.size_toArray, List.length_cons, List.length_nil, Nat.reduceAdd, Nat.reduceSub, Array.replicate_succ, Array.replicate_zero, List.push_toArray, List.append_toArray, List.nil_append, List.cons_append]
  gi_wp2_with (refine ⟨trivial, ?_⟩; gi_at_call 34; refine (callsIn_wide.2 (all_make _ 1 1 _)).mono ?_; rintro e w' ⟨rfl, rfl⟩)
  obtain ⟨wa, hwa⟩ : ∃ wa, (w.alloc (Obj.cells #[.int .i64 k, .int .i64 n, .slice u1 u2 u3] 28)).alloc (Obj.cells #[.bool false] 4) = wa := ⟨_, rfl⟩
  have hsa : wa.heap.size = w.heap.size + 1 + 1 := by rw [← hwa]; simp
  have hba : Below w.heap.size w wa := by rw [← hwa]; exact ((Below.refl _ w).alloc (Nat.le_refl _) _).alloc (by simp) _
  have bz : Boxed wa (w.heap.size + 1) 4 (.bool false) := by
    rw [← hwa]
    have := Boxed.new (w.alloc (Obj.cells #[.int .i64 k, .int .i64 n, .slice u1 u2 u3] 28)) 4 (.bool false)
    rwa [World.size_alloc] at this
  obtain ⟨w4, hw4, hs4, hbx, hrd, hTL, hb4⟩ := one_laid (w := wa) (B := B) k n (u1, u2, u3) ps (by omega) (hps.below (hba.mono hB))
  dsimp only [slv] at hw4
  rw [hwa, ← hsa, hw4]
  have bz4 : Boxed w4 (w.heap.size + 1) 4 (.bool false) := (hb4.block _ (by omega)).trans bz
  have hb04 : Below w.heap.size w w4 := hba.trans (hb4.mono (by omega))
  have hf : (Fo.cons k n (u1, u2, u3) ps .nil).size = 1 + ps.size := by simp [Fo.size]
  refine wpIn_rangeC (by omega) (gf := 54) (lb := #[.pointer (some ⟨wa.heap.size + 1, 0, none⟩)]) rfl (enters_of Tryd.func54 (by kernel_rfl) rfl)
    (all_seq 3 (by omega) (wa.heap.size + 1) B _ (.cons k n (u1, u2, u3) ps .nil) (by omega) w4 (by omega) hbx hrd hTL) (Below.refl _ _) KpC.t (KpC.b (by omega)) (fun _ => rfl)
    (fun pre W => allAlone pre = true ∧ Boxed W (w.heap.size + 1) 4 (.bool false) ∧ Below w.heap.size w W) (fun c pre W => (c = .ret ∧ allAlone pre = false) ∧ Boxed W (w.heap.size + 1) 4 (.bool false) ∧ Below w.heap.size w W)
    (OwnFrom.and (ownFrom_pure _ _) (OwnFrom.and (Own.from (boxed_own _ _ (fun _ => .bool false)) _) (below_own (by omega) (Nat.le_refl _)))) (fun _ => OwnFrom.and (ownFrom_pure _ _) (OwnFrom.and (Own.from (boxed_own _ _ (fun _ => .bool false)) _) (below_own (by omega) (Nat.le_refl _))))
    (AbC.and AbC.pure (AbC.and (box_ab (by decide)) (below_ab (by omega) (Nat.le_refl _)))) (fun _ => AbC.and AbC.pure (AbC.and (box_ab (by decide)) (below_ab (by omega) (Nat.le_refl _))))
    ⟨rfl, bz4, hb04⟩
    (fun x a' W => ∃ Bx, (W.cell? ⟨Bx, 0, none⟩ = some (.int .i64 x.1) ∧ W.cell? ⟨Bx, 1, none⟩ = some (.int .i64 x.2.1) ∧ W.cell? ⟨Bx, 2, none⟩ = some (slv x.2.2)) ∧ a' = { tmps := #[tyVal k n (.slice u1 u2 u3), .pointer (some ⟨w.heap.size, 0, none⟩), .pointer (some ⟨w.heap.size + 1, 0, none⟩), .pointer (some ⟨Bx, 0, none⟩), tyVal k n (.slice u1 u2 u3), .slice (some ⟨wa.heap.size, 0, none⟩) 1 1, .func (.func 54) #[] #[.pointer (some ⟨wa.heap.size + 1, 0, none⟩)], trV x, undef, undef, undef], defers := [] })
    (fun x a' s W W' row hs hg hr => by
      obtain ⟨Bx, ⟨c0, c1, c2⟩, ha⟩ := hs
      exact ⟨Bx, ⟨cell_kept c0 hg (fun r e => (hr r e).2), cell_kept c1 hg (fun r e => (hr r e).2), cell_kept c2 hg (fun r e => (hr r e).2)⟩, ha⟩) ?assign ?body ?done ?stop
  case assign =>
    rintro l pre x W K ⟨hi1, hi2, hi3⟩ hK
    obtain ⟨x0, x1, A3, n3, c3⟩ := x
    dsimp only [trV, slv] at hK ⊢
    have hsz := hi3.size
    gi_wp2
    exact hK _ _ ((KeepsOthers.alloc _ _).from _) (KpC.of_below ((Below.refl _ _).alloc (Nat.le_refl _) _) (by omega)) ⟨hi1, hi2.alloc _, hi3.alloc hsz _⟩ ⟨W.heap.size, ⟨by go_simp, by go_simp, by go_simp⟩, by simp [tyVal]⟩
  case body =>
    rintro l pre x a' W hl ⟨hi1, hi2, hi3⟩ ⟨Bx, ⟨c0, c1, c2⟩, rfl⟩ hlt
    obtain ⟨x0, x1, A3, n3, c3⟩ := x
    dsimp only [trV, slv, tyVal] at c0 c1 c2 ⊢
    obtain ⟨b, hb⟩ : ∃ b, alone x0 x1 n3 = b := ⟨_, rfl⟩
    have FA := Lib.hid (alone_any x0 x1 A3 n3 c3 W)
    rw [hb] at FA
    have hap : allAlone (pre ++ [(x0, x1, A3, n3, c3)]) = b := by
      have : allAlone (pre ++ [(x0, x1, A3, n3, c3)]) = (allAlone pre && alone x0 x1 n3) := by simp [allAlone]
      rw [this, hi1, hb]; rfl
    have HAP := Lib.hid hap
    have HSZ := Lib.hid hi3.size
    have HS4 := Lib.hid hs4
    have HSA := Lib.hid hsa
    clear hap hb hf hs4 hsa hs
    cases b
    · gi_wp2_with (refine ⟨trivial, ?_⟩; gi_at_call 35; refine (CallsIn.inRound l (callsIn_wide.2 FA.out)).mono ?_; rintro e w' ⟨rfl, hbw⟩; have hi2' : Boxed w' (w.heap.size + 1) 4 (.bool false) := (hbw.block _ hi2.lt).trans hi2; have bc := hi2'.cell; have bf := hi2'.frozen; have HB2 := Lib.hid hi2'; clear hi2')
      refine ⟨⟨Nat.le_trans hbw.size (KeepsOthers.setCell w' _ _).size, fun j o _ hj ho => (KeepsOthers.setCell w' _ _).same j o ((hbw.block j (Array.getElem?_eq_some_iff.1 hj).1).trans hj) ho⟩, ⟨rfl, HAP.out⟩, HB2.out.set _, ?_⟩
      have hb1 : Below w.heap.size w w' := hi3.trans (hbw.mono HSZ.out)
      exact hb1.trans ((Below.refl _ _).grown (grownBy_setCell' w' (w.heap.size + 1) _) hb1.size (fun k e => by cases e; omega))
    · gi_wp2_with (refine ⟨trivial, ?_⟩; gi_at_call 35; refine (CallsIn.inRound l (callsIn_wide.2 FA.out)).mono ?_; rintro e w' ⟨rfl, hbw⟩)
      refine ⟨⟨hbw.size, fun j o _ hj _ => (hbw.block j (Array.getElem?_eq_some_iff.1 hj).1).trans hj⟩, KpC.of_below hbw (Nat.le_trans hB HSZ.out), HAP.out, (hbw.block _ hi2.lt).trans hi2, hi3.trans (hbw.mono HSZ.out)⟩
  case done =>
    rintro D ys W hD rfl ⟨hi1, hi2, hi3⟩ hK
    have bc := hi2.cell
    have bf := hi2.frozen
    have HB2 := Lib.hid hi2
    have HA := Lib.hid hi1
    clear hi2 hi1 hf
    gi_wp2
    have bx : Boxed ((W.setCell ⟨w.heap.size + 1, 0, none⟩ (.bool true)).putObj D (.deferred none)) (w.heap.size + 1) 4 (.bool true) := (HB2.out.set _).kept (grownBy_putObj' _ D (.deferred none)) (fun e => by cases e; omega)
    have hK' : (W.setCell ⟨w.heap.size + 1, 0, none⟩ (.bool true)).heap[D]? = some (.deferred (some [])) := ((grownBy_setCell' W (w.heap.size + 1) (.bool true)).block D (Array.getElem?_eq_some_iff.1 hK).1 (fun e => by cases e; omega)).trans hK
    refine ⟨by simp, .inl ⟨_, _, rfl, run_takeDeferred hK', ?_⟩⟩
    refine ⟨_, results_box rfl _ _ _ _ rfl (load_bool bx.cell), ?_, ?_⟩
    · rw [HA.out]
    · have h1 := hi3.trans ((Below.refl _ _).grown (grownBy_setCell' W (w.heap.size + 1) (.bool true)) hi3.size (fun k e => by cases e; omega))
      exact h1.trans ((Below.refl _ _).grown (grownBy_putObj' _ D (.deferred none)) h1.size (fun k e => by cases e; omega))
  case stop =>
    rintro D c pre W hD ⟨hne, s, hsp⟩ ⟨⟨rfl, hi1⟩, hi2, hi3⟩ hK
    gi_wp2
    have bx : Boxed (W.putObj D (.deferred none)) (w.heap.size + 1) 4 (.bool false) := hi2.kept (grownBy_putObj' _ D (.deferred none)) (fun e => by cases e; omega)
    refine ⟨by simp, .inl ⟨_, _, rfl, run_takeDeferred hK, ?_⟩⟩
    refine ⟨_, results_box rfl _ _ _ _ rfl (load_bool bx.cell), ?_, hi3.trans ((Below.refl _ _).grown (grownBy_putObj' _ D (.deferred none)) hi3.size (fun k e => by cases e; omega))⟩
    have : allAlone (pre ++ s) = false := by
      have h2 : allAlone (pre ++ s) = (allAlone pre && allAlone s) := by simp [allAlone]
      rw [h2, hi1]; rfl
    rw [← hsp, this]
/-- Is it that variable? -/
def isVar (v : Int) (x : Tr) : Bool := x.1 == 1 && x.2.1 == v
end Go.Proofs.YtjmbkkpglkbppaaDoor
