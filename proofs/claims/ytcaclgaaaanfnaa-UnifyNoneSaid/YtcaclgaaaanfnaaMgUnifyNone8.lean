/- Texts of one proof, one behind the other. -/
import Derived.Test.YtcaclgaaaanfnaaMgUnifyNone6
import Derived.Test.YtcaclgaaaanfnaaMgUnifyNone3
import Derived.Deep.RegionWith
import Derived.Test.YtcaclgaaaanfnaaMgUnifyNone7
import Derived.Test.YtcaclgaaaanfnaaMgUnifyNone5
import Derived.Test.YtcaclgaaaanfnaaMgUnifyNone4
/- types.rightAlone. -/
namespace Go.Proofs.Ytcaclgaaaanfnaa
open Go.RowKit Go.Shelf

/-- Is one a type, its parts left aside? -/
def alone (k n : Int) (m : Nat) : Bool :=
  if k = 1 then decide (0 ≤ n) && decide (n < 1073741824) && ((m : Int) == 0)
  else if k = 2 ∨ k = 3 then (n == 0) && ((m : Int) == 0)
  else if k = 4 then (n == 0) && ((m : Int) == 2)
  else if k = 5 then (n == 0) && decide (2 ≤ (m : Int)) && decide ((m : Int) ≤ 8)
  else false
theorem number_any (n : Int) (w : World) : Calls Try.prog 100 #[.int .i64 n] w fun e w' => e = .returned (.bool (decide (0 ≤ n) && decide (n < 1073741824))) ∧ w' = w := by
  go_enter Try.func100, Try.ntmps100
  by_cases h : 0 ≤ n
  · have h2 : decide (0 ≤ n) = true := decide_eq_true h
    go_wp2
    go_ret
    exact ⟨by rw [h2]; rfl, rfl⟩
  · have h2 : decide (0 ≤ n) = false := decide_eq_false h
    go_wp2
    go_ret
    exact ⟨rfl, rfl⟩
set_option maxHeartbeats 1000000 in
theorem alone_any (k n : Int) (A : Option Addr) (m c : Nat) (w : World) : Calls Try.prog 75 #[tyVal k n (.slice A m c)] w fun e w' => e = .returned (.bool (alone k n m)) ∧ Below w.heap.size w w' := by
  dsimp only [tyVal]
  go_enter Try.func75, Try.ntmps75
  have HB := Lib.hid (show ∀ (cs : Array Value) (t : TypeId), Below w.heap.size w (w.alloc (Obj.cells cs t)) from fun cs t => (Below.refl _ w).alloc (Nat.le_refl _) _)
  by_cases h1 : k = 1
  · subst h1
    go_wp2_with fail
    refine (number_any n _).mono ?_
    rintro e w' ⟨rfl, rfl⟩
    obtain ⟨b, hb⟩ : ∃ b, (decide (0 ≤ n) && decide (n < 1073741824)) = b := ⟨_, rfl⟩
    rw [hb]
    have HN := Lib.hid hb
    clear hb
    cases b
    · go_wp2
      go_ret
      refine ⟨?_, HB.out _ _⟩
      simp [alone, HN.out]
    · go_wp2
      go_ret
      refine ⟨?_, HB.out _ _⟩
      simp [alone, HN.out]
  by_cases h2 : k = 2
  · subst h2
    obtain ⟨b, hb⟩ : ∃ b, (n == 0) = b := ⟨_, rfl⟩
    cases b
    · go_wp2
      go_ret
      refine ⟨?_, HB.out _ _⟩
      simp [alone, hb]
    · go_wp2
      go_ret
      refine ⟨?_, HB.out _ _⟩
      simp [alone, hb]
  by_cases h3 : k = 3
  · subst h3
    obtain ⟨b, hb⟩ : ∃ b, (n == 0) = b := ⟨_, rfl⟩
    cases b
    · go_wp2
      go_ret
      refine ⟨?_, HB.out _ _⟩
      simp [alone, hb]
    · go_wp2
      go_ret
      refine ⟨?_, HB.out _ _⟩
      simp [alone, hb]
  by_cases h4 : k = 4
  · subst h4
    obtain ⟨b, hb⟩ : ∃ b, (n == 0) = b := ⟨_, rfl⟩
    cases b
    · go_wp2
      go_ret
      refine ⟨?_, HB.out _ _⟩
      simp [alone, hb]
    · go_wp2
      go_ret
      refine ⟨?_, HB.out _ _⟩
      simp [alone, hb]
  by_cases h5 : k = 5
  · subst h5
    obtain ⟨b, hb⟩ : ∃ b, (n == 0) = b := ⟨_, rfl⟩
    obtain ⟨d, hd⟩ : ∃ d, decide (2 ≤ (m : Int)) = d := ⟨_, rfl⟩
    cases b
    · go_wp2
      go_ret
      refine ⟨?_, HB.out _ _⟩
      simp [alone, hb]
    cases d
    · go_wp2
      go_ret
      refine ⟨?_, HB.out _ _⟩
      simp [alone, hb, hd]
    · go_wp2
      go_ret
      refine ⟨?_, HB.out _ _⟩
      simp [alone, hb, hd]
  have f1 : (k == 1) = false := beq_eq_false_iff_ne.2 h1
  have f2 : (k == 2) = false := beq_eq_false_iff_ne.2 h2
  have f3 : (k == 3) = false := beq_eq_false_iff_ne.2 h3
  have f4 : (k == 4) = false := beq_eq_false_iff_ne.2 h4
  have f5 : (k == 5) = false := beq_eq_false_iff_ne.2 h5
  go_wp2
  go_ret
  refine ⟨?_, HB.out _ _⟩
  simp [alone, h1, h2, h3, h4, h5]
end Go.Proofs.Ytcaclgaaaanfnaa
/- The answer's Same. -/
namespace Go.Proofs.Ytcaclgaaaanfnaa
open Go.RowKit

namespace Fo
/-- Are two lists of types the same? -/
def same : Fo → Fo → Bool
  | nil, nil => true
  | cons k n _ ps r, cons k' n' _ ps' r' => k == k' && n == n' && ps.same ps' && r.same r'
  | _, _ => false
/-- Are two types the same? -/
def same1 (x y : Int × Int × Sl × Fo) : Bool := x.1 == y.1 && x.2.1 == y.2.1 && x.2.2.2.same y.2.2.2
theorem same_len (f g : Fo) (h : f.same g = true) : f.len = g.len := by
  induction f generalizing g with
  | nil => cases g <;> simp [same] at h ⊢
  | cons k n u ps r _ ih =>
    cases g with
    | nil => simp [same] at h
    | cons k' n' u' ps' r' =>
      simp only [same, Bool.and_eq_true] at h
      simp [len, ih r' h.2]
theorem same_split (f g : Fo) (j : Nat) (h : f.len = g.len) (hj : j < f.len) : f.same g = ((f.take j).same (g.take j) && (same1 (f.at_ j) (g.at_ j) && (f.drop (j + 1)).same (g.drop (j + 1)))) := by
  induction f generalizing g j with
  | nil => simp [len] at hj
  | cons k n u ps r _ ih =>
    cases g with
    | nil => simp [len] at h
    | cons k' n' u' ps' r' =>
      cases j with
      | zero => simp [same, take, at_, drop, same1]
      | succ j =>
        have := ih r' j (by simpa [len] using h) (by simpa [len] using hj)
        simp only [same, take, at_, drop]
        rw [this]
        simp [Bool.and_assoc]
theorem same_take (f g : Fo) (j : Nat) (h : f.len = g.len) (hj : j < f.len) : (f.take (j + 1)).same (g.take (j + 1)) = ((f.take j).same (g.take j) && same1 (f.at_ j) (g.at_ j)) := by
  induction f generalizing g j with
  | nil => simp [len] at hj
  | cons k n u ps r _ ih =>
    cases g with
    | nil => simp [len] at h
    | cons k' n' u' ps' r' =>
      cases j with
      | zero => simp [same, take, at_, same1]
      | succ j =>
        have := ih r' j (by simpa [len] using h) (by simpa [len] using hj)
        simp only [same, take, at_] at this ⊢
        rw [this]
        simp [Bool.and_assoc]
end Fo
end Go.Proofs.Ytcaclgaaaanfnaa
/- types.Copy, types.Shift. -/
namespace Go.Proofs.Ytcaclgaaaanfnaa
open Go.RowKit Go.Shelf

/-- A struct stored into a result's cell, and loaded. -/
theorem ret_cells {w : World} (g : Nat) (k n : Int) (u : Sl) (hg : w.heap[g]? = some (Obj.cells rt0 36)) :
    w.cell? ⟨g, 0, none⟩ = some (.int .i64 0) ∧ w.cell? ⟨g, 1, none⟩ = some (.int .i64 0) ∧ w.cell? ⟨g, 2, none⟩ = some (.slice none 0 0) ∧ w.frozen? ⟨g, 0, none⟩ = false ∧ w.frozen? ⟨g, 1, none⟩ = false ∧ w.frozen? ⟨g, 2, none⟩ = false ∧
    ∃ w', ((w.setCell ⟨g, 0, none⟩ (.int .i64 k)).setCell ⟨g, 1, none⟩ (.int .i64 n)).setCell ⟨g, 2, none⟩ (slv u) = w' ∧ (loadVar 36 ⟨g, 0, none⟩).run Try.prog w' = .ok (tyVal k n (slv u)) w' ∧ w'.heap.size = w.heap.size ∧ (∀ b, b ≠ g → w'.heap[b]? = w.heap[b]?) ∧ Below g w w' := by
  have r0 := cell_of_row w g 0 _ _ (0, 0) hg
  have r1 := cell_of_row w g 1 _ _ (0, 0) hg
  have r2 := cell_of_row w g 2 _ _ (0, 0) hg
  simp [rt0] at r0 r1 r2
  have e01 : (⟨g, 1, none⟩ : Addr) ≠ ⟨g, 0, none⟩ := by intro e; injection e with _ e; omega
  have e02 : (⟨g, 2, none⟩ : Addr) ≠ ⟨g, 0, none⟩ := by intro e; injection e with _ e; omega
  have e12 : (⟨g, 2, none⟩ : Addr) ≠ ⟨g, 1, none⟩ := by intro e; injection e with _ e; omega
  refine ⟨r0, r1, r2, frozen_cells hg 0, frozen_cells hg 1, frozen_cells hg 2, _, rfl, load_ty ?_ ?_ ?_, by simp [World.setCell], fun b hne => ?_, ?_⟩
  rotate_right
  · exact (((Below.refl g w).setCell (p := ⟨g, 0, none⟩) (Nat.le_refl g) _).setCell (p := ⟨g, 1, none⟩) (Nat.le_refl g) _).setCell (p := ⟨g, 2, none⟩) (Nat.le_refl g) _
  · rw [World.cell?_setCell_other _ _ _ _ e02, World.cell?_setCell_other _ _ _ _ e01, World.cell?_setCell_same _ _ _ r0]
  · rw [World.cell?_setCell_other _ _ _ _ e12]
    exact World.cell?_setCell_same _ _ _ ((World.cell?_setCell_other _ _ _ _ e01.symm).trans r1)
  · exact World.cell?_setCell_same _ _ _ ((World.cell?_setCell_other _ _ _ _ e12.symm).trans ((World.cell?_setCell_other _ _ _ _ e02.symm).trans r2))
  · rw [Below.heap_setCell _ _ _ _ (by simpa using hne), Below.heap_setCell _ _ _ _ (by simpa using hne), Below.heap_setCell _ _ _ _ (by simpa using hne)]
/-- A number as it is. -/
theorem copy1_any (m : Int) (W : World) : Calls Try.prog 97 (#[.int .i64 m] ++ #[]) W fun e W' => e = .returned (.int .i64 (idn m)) ∧ W' = W := by
  rw [Array.append_empty]
  go_enter Try.func97, Try.ntmps97
  go_wp2
  go_ret
  exact ⟨rfl, rfl⟩
theorem copy_any (w : World) (k n : Int) (u : Sl) (ps : Fo) (hps : TyV w.heap.size w ps (slv u)) (hs : ps.size < 1000000) :
    Calls Try.prog 73 #[tyVal k n (slv u)] w fun e w' => ∃ u' : Sl, e = .returned (tyVal k n (slv u')) ∧ Below w.heap.size w w' ∧ FreshT 36 w.heap.size w' idn ps u' := by
  obtain ⟨u1, u2, u3⟩ := u
  obtain ⟨w2, hw2⟩ : ∃ w2, (w.alloc (.cells #[.int .i64 k, .int .i64 n, .slice u1 u2 u3] 36)).alloc (.cells #[.int .i64 0, .int .i64 0, .slice none 0 0] 36) = w2 := ⟨_, rfl⟩
  have hs2 : w2.heap.size = w.heap.size + 1 + 1 := by rw [← hw2]; simp
  have hb2 : Below w.heap.size w w2 := by rw [← hw2]; exact ((Below.refl _ w).alloc (Nat.le_refl _) _).alloc (by simp) _
  have h0 : w2.heap[w.heap.size]? = some (.cells #[.int .i64 k, .int .i64 n, .slice u1 u2 u3] 36) := by
    rw [← hw2]; exact (Below.heap_alloc _ _ _ (by simp)).trans (heap_alloc_new w _)
  have h1 : w2.heap[w.heap.size + 1]? = some (.cells rt0 36) := by
    rw [← hw2]
    have := heap_alloc_new (w.alloc (.cells #[.int .i64 k, .int .i64 n, .slice u1 u2 u3] 36)) (.cells #[.int .i64 0, .int .i64 0, .slice none 0 0] 36)
    rwa [World.size_alloc] at this
  have c0 : w2.cell? ⟨w.heap.size, 0, none⟩ = some (.int .i64 k) := cell_of_row w2 w.heap.size 0 _ _ (0, 0) h0
  have c1 : w2.cell? ⟨w.heap.size, 1, none⟩ = some (.int .i64 n) := cell_of_row w2 w.heap.size 1 _ _ (0, 0) h0
  have c2 : w2.cell? ⟨w.heap.size, 2, none⟩ = some (.slice u1 u2 u3) := cell_of_row w2 w.heap.size 2 _ _ (0, 0) h0
  have hc := change_any idn 97 #[] (enters_of Try.func97 (by kernel_rfl) rfl) w2 k n (u1, u2, u3) ps ((hps.below hb2).keep hb2.size fun _ _ _ => rfl) hs (fun m W _ => copy1_any m W)
  rw [nm_id] at hc
  have HC := Lib.hid hc
  have HB := Lib.hid hb2
  have H1 := Lib.hid h1
  clear hps hc hb2 h0 h1
  dsimp only [tyVal, slv] at HC ⊢
  go_enter Try.func73, Try.ntmps73
  go_wp2_with fail
  refine HC.out.mono ?_
  rintro e w3 ⟨u', rfl, hb3, hf⟩
  obtain ⟨r0, r1, r2, z0, z1, z2, w4, hw4, hld, hsz, hfar, hbl⟩ := ret_cells (w := w3) (w.heap.size + 1) k n u' ((hb3.block _ (by omega)).trans H1.out)
  have HL := Lib.hid hld
  have HF := Lib.hid hf
  have HFR := Lib.hid hfar
  obtain ⟨u1', u2', u3'⟩ := u'
  dsimp only [tyVal, slv] at hw4 ⊢
  clear hld hf hfar
  go_wp2_with fail
  refine bodyPost_ret (results_box rfl _ _ _ _ rfl HL.out) rfl ?_
  have hb4 : Below w.heap.size w w4 := (HB.out.trans (hb3.mono (by omega))).trans (hbl.mono (by omega))
  refine ⟨(u1', u2', u3'), rfl, hb4, FreshT.mono (HF.out.to (by omega) fun b cs hb hc => (HFR.out b (by omega)).trans hc) (by omega)⟩
/-- What Shift makes of a number. -/
def shn (fr tt by_ : Int) (n : Int) : Int :=
  let s := wrap64 (n + by_)
  if (decide (0 ≤ n) && decide (n < 1073741824)) && decide (fr ≤ n) && decide (n < tt) && (decide (0 ≤ s) && decide (s < 1073741824)) then s else n
end Go.Proofs.Ytcaclgaaaanfnaa
/- A range over a function of which it is known what may come next. Nothing here speaks of the program. -/
namespace Go.Proofs.Ytcaclgaaaanfnaa
open Go.RowKit
variable {n : Nat} {P : Program}

/-- The iterator's contract. -/
def SeqG {α : Type} (n : Nat) (P : Program) (g : Nat) (lb : Array Value) (t : TypeId) (encs : α → Array Value) (Kp : World → World → Prop) (S Sp : List α → Prop) (G : List α → α → Prop) (w : World) : Prop :=
  ∀ (l : Nat) (J Jx : List α → World → Prop) (W : World), Below w.heap.size w W → AbC W.heap.size t J → AbC W.heap.size t Jx →
    (∀ pre x W1, J pre W1 → G pre x → YieldAt Fence.wide (n - 1) P l (encs x) W1 fun e W' =>
      (e = .returned (.bool true) ∧ J (pre ++ [x]) W' ∧ Kp W1 W') ∨ (e = .returned (.bool false) ∧ Jx (pre ++ [x]) W')) → J [] W →
    CallsIn Fence.wide n P g (#[.func (.yield l) #[] #[]] ++ lb) W fun e W' => (∃ v, e = .returned v) ∧ ((∃ xs, S xs ∧ J xs W') ∨ (∃ pre, Sp pre ∧ Jx pre W'))
/-- The statement. -/
theorem wpIn_rangeG {α : Type} {g : Operand} {ps : Array Tmp} {assign body : Code} {Q : Exit → Act → World → Prop} {a : Act} {w : World}
    (h1 : 1 ≤ n) {gf : Nat} {lb : Array Value} (hg : a.eval g = .func (.func gf) #[] lb) (eg : ∀ args w, (callFunc gf args).run P w = .ok (.enter gf args) w)
    {t : TypeId} {encs : α → Array Value} {Kp : World → World → Prop} {S Sp : List α → Prop} {G : List α → α → Prop} {w0 : World} (hseq : SeqG (n - 1) P gf lb t encs Kp S Sp G w0) (hb0 : Below w0.heap.size w0 w)
    (hKt : ∀ {A B C : World}, Kp A B → Kp B C → Kp A C) (hKb : ∀ (W : World) (l : Nat) (o o' : Obj), w.heap.size ≤ l → W.heap[l]? = some o → o.isCells = false → o.isWalk = false → Kp W (W.putObj l o')) (hps : ∀ x, (encs x).size = ps.size)
    (I : List α → World → Prop) (Ix : Code → List α → World → Prop) (hI : OwnFrom w.heap.size I) (hIx : ∀ c, OwnFrom w.heap.size (Ix c)) (hIc : AbC w.heap.size t I) (hIxc : ∀ c, AbC w.heap.size t (Ix c)) (h0 : I [] w)
    (Ax : α → Act → World → Prop) (hAx : ∀ x a', OwnFrom w.heap.size (fun (_ : Unit) W => Ax x a' W))
    (hassign : ∀ (l : Nat) (pre : List α) (x : α) (W : World) (K : Act → World → Prop), I pre W → (∀ a' W', KeepsFrom w.heap.size W W' → Kp W W' → I pre W' → Ax x a' W' → K a' W') →
      assign.wpIn (Fence.wide.inRound l) (n - 1 - 1) P (Exit.then K (fun _ _ _ => False)) { tmps := (ps.zip (encs x)).foldl (fun t (p, v) => t.setIfInBounds p v) a.tmps, defers := [] } W)
    (hbody : ∀ (l : Nat) (pre : List α) (x : α) (a' : Act) (W : World), w.heap.size ≤ l → I pre W → Ax x a' W → G pre x → body.wpIn (Fence.wide.inRound l) (n - 1 - 1) P (ownPostG w.heap.size Kp I Ix (pre ++ [x]) W) a' W)
    (hdone : ∀ (D : Nat) (xs : List α) (W : World), w.heap.size ≤ D → S xs → I xs W → W.heap[D]? = some (.deferred (some [])) → Q .normal { a with defers := { target := .collected D, args := #[] } :: a.defers } W)
    (hstop : ∀ (D : Nat) (c : Code) (pre : List α) (W : World), w.heap.size ≤ D → Sp pre → Ix c pre W → W.heap[D]? = some (.deferred (some [])) → c.wpIn Fence.wide n P Q { a with defers := { target := .collected D, args := #[] } :: a.defers } W) :
    (Code.rangeFunc g ps assign body).wpIn Fence.wide n P Q a w := by
  refine wpIn_rangeFunc fun fn hfn => ?_
  obtain ⟨R, hR⟩ : ∃ R : LoopState → Option Code → Loop, R = fun st pe => { state := st, pending := pe, fn, tmps := a.tmps, params := ps, assign, body, defers := w.heap.size } := ⟨_, rfl⟩
  obtain ⟨W1, hW1⟩ : ∃ W1, (w.alloc (.deferred (some []))).alloc (.loop (R .ready none)) = W1 := ⟨_, rfl⟩
  have hL1 : Laid w (R .ready none) W1 := by rw [← hW1]; exact Laid.new w _
  have hI1 : I [] W1 := by rw [← hW1]; exact hI.alloc _ (hI.alloc _ h0)
  have hs1 : W1.heap.size = w.heap.size + 2 := by rw [← hW1]; simp
  have hb1 : Below w0.heap.size w0 W1 := by
    rw [← hW1]; exact hb0.trans ((((Below.refl _ w).alloc (Nat.le_refl _) _).alloc (by simp) _).mono hb0.size)
  -- the caller's word, put where a round's record stands
  have put : ∀ {r : Loop} (r' : Loop) {W : World}, Laid w r W → Kp W (W.putObj (w.heap.size + 1) (.loop r')) := fun r' W h => hKb _ _ _ _ (by omega) h.1 rfl rfl
  have wide : ∀ {W W' : World}, CStep W1.heap.size t W W' → CStep w.heap.size t W W' := fun h => h.mono (by omega)
  refine ⟨w.heap.size + 1, [{ target := .collected w.heap.size, args := #[] }], W1, { target := .fn (.func gf) lb, args := #[.func (.yield (w.heap.size + 1)) #[] #[]] }, W1, gf, #[.func (.yield (w.heap.size + 1)) #[] #[]] ++ lb, W1, ?_, ?_, ?_, ?_, fun _ => h1, ?_⟩
  · rw [← hW1, hR]; exact run_enterLoop_outer _ _ _ _ _
  · simp only [resolve, hg]; simp [go_sem]
  · exact fun _ _ => trivial
  · simp [invoke, go_sem, eg]
  refine (hseq (w.heap.size + 1) (fun pre W => I pre W ∧ Laid w (R .ready none) W) (fun pre W => ∃ c, Ix c pre W ∧ Laid w (R .done (some c)) W) W1 hb1
    (fun s X Y hs hc => ⟨hIc s X Y hs.1 (wide hc), hs.2.step hc⟩) (fun s X Y ⟨c, hs, hl⟩ hc => ⟨c, hIxc c s X Y hs (wide hc), hl.step hc⟩) ?_ ⟨hI1, hL1⟩).mono ?_
  · rintro pre x W ⟨hi, hl⟩ hlen
    have hy := run_yield (P := P) (args := encs x) hl.1 (by rw [hR]; exact hps x)
    rw [hR] at hy
    refine ⟨fn, _, assign, body, hy, roundIn_of_wpIn hfn (hassign _ pre x W _ hi ?_)⟩
    clear hy
    intro a' X hkX hpX hiX hax
    have hlX := hl.from hkX
    refine ⟨_, run_beginRound hlX.1 (by rw [hR]), ?_⟩
    have hlB := hlX.put { R .ready none with state := .busy }
    have hiB := hI.putObj (.loop { R .ready none with state := .busy }) hiX (by omega) hlX.1 rfl
    have haB := (hAx x a').putObj (s := ()) (.loop { R .ready none with state := .busy }) hax (by omega) hlX.1 rfl
    have hpB := hKt hpX (put { R .ready none with state := .busy } hlX)
    refine wpIn_mono (hbody _ pre x a' _ (by omega) hiB haB hlen) ?_
    have stop : ∀ (c : Code) (W3 : World), KeepsFrom w.heap.size (X.putObj (w.heap.size + 1) (.loop { R .ready none with state := .busy })) W3 → Ix c (pre ++ [x]) W3 →
        ∃ v w', (Instr.endRound (w.heap.size + 1) (some c)).run P W3 = .ok v w' ∧ (((.returned v : Ending) = .returned (.bool true) ∧ (I (pre ++ [x]) w' ∧ Laid w (R .ready none) w') ∧ Kp W w') ∨ ((.returned v : Ending) = .returned (.bool false) ∧ ∃ c, Ix c (pre ++ [x]) w' ∧ Laid w (R .done (some c)) w')) := by
      intro c W3 hk3 hi3
      have hl3 := hlB.from hk3
      have he := run_endRound (P := P) (some c) hl3.1
      refine ⟨_, _, he, .inr ⟨rfl, c, (hIx c).putObj _ hi3 (by omega) hl3.1 rfl, ?_⟩⟩
      have := hl3.put (R .done (some c))
      rw [hR] at this ⊢
      exact this
    rintro e a3 W3 hp
    cases e with
    | normal =>
      obtain ⟨hk3, hp3, hi3⟩ := hp
      have hl3 := hlB.from hk3
      have he := run_endRound (P := P) none hl3.1
      refine ⟨_, _, he, .inl ⟨rfl, ⟨hI.putObj _ hi3 (by omega) hl3.1 rfl, ?_⟩, hKt (hKt hpB hp3) (put _ hl3)⟩⟩
      have := hl3.put (R .ready none)
      rw [hR] at this ⊢
      exact this
    | ret => exact stop .ret W3 hp.1 hp.2
    | exit id => exact stop (.exit id) W3 hp.1 hp.2
    | goto t => exact stop (.goto t) W3 hp.1 hp.2
    | panic ch => exact hp.elim
    | outgrown => exact hp.elim
  · rintro e W2 ⟨⟨v, rfl⟩, (⟨xs, hS, hi, hl⟩ | ⟨pre, hSp, c, hi, hl⟩)⟩
    · have he := run_endLoop (P := P) hl.1 (by rw [hR]; simp)
      rw [hR] at he
      exact ⟨none, _, he, hdone _ xs _ (Nat.le_refl _) hS (hI.putObj _ hi (by omega) hl.1 rfl) ((World.putObj_heap_other (by omega)).trans hl.2)⟩
    · have he := run_endLoop (P := P) hl.1 (by rw [hR]; simp)
      rw [hR] at he
      exact ⟨some c, _, he, hstop _ c pre _ (Nat.le_refl _) hSp ((hIx c).putObj _ hi (by omega) hl.1 rfl) ((World.putObj_heap_other (by omega)).trans hl.2)⟩
end Go.Proofs.Ytcaclgaaaanfnaa
/- slices.Backward at types: what may come next is known; and the arrows' plain facts. -/
namespace Go.Proofs.Ytcaclgaaaanfnaa
open Go.RowKit Go.Shelf
attribute [local go_sem] Oper.semAt_some

/-- What comes behind these: the next from the end, with its place. -/
def NextB (L : List Tr) (pre : List (Int × Tr)) (x : Int × Tr) : Prop := ∃ _ : pre.length < L.length, x = (((L.length - 1 - pre.length : Nat) : Int), L[L.length - 1 - pre.length])
set_option maxRecDepth 100000 in
set_option maxHeartbeats 2000000 in
/-- slices.Backward's closure: the last first, each with its place. -/
theorem back1G (n : Nat) (hn : 1 ≤ n) (l Bs B : Nat) (A : Option Addr) (c : Nat) (L : List Tr) (hL : L.length ≤ 1000000) (J Jx : List (Int × Tr) → World → Prop)
    (hY : ∀ pre x W, J pre W → NextB L pre x → YieldAt Fence.wide (n - 1) Try.prog l #[.int .i64 x.1, trV x.2] W fun e W' =>
      (e = .returned (.bool true) ∧ J (pre ++ [x]) W' ∧ KpB B Bs W W') ∨ (e = .returned (.bool false) ∧ Jx (pre ++ [x]) W'))
    (W : World) (hBs : Boxed W Bs 34 (.slice A L.length c)) (hR : RdX B W (.slice A L.length c) L) (h0 : J [] W) :
    CallsIn Fence.wide n Try.prog 95 #[.func (.yield l) #[] #[], .pointer (some ⟨Bs, 0, none⟩)] W fun e W' => (∃ v, e = .returned v) ∧
      ((∃ ys : List (Int × Tr), ys.map (·.2) = L.reverse ∧ J ys W') ∨ (∃ pre, Jx pre W')) := by
  refine callsIn_of_wp Try.func95 rfl trivial ?_ rfl
  simp only [Try.ntmps95, List.size_toArray, List.length_cons, List.length_nil, Nat.reduceAdd, Nat.reduceSub, Array.replicate_succ, Array.replicate_zero, List.push_toArray, List.append_toArray, List.nil_append, List.cons_append]
  have e00 : W.cell? ⟨Bs, 0, none⟩ = some (.slice A L.length c) := hBs.cell
  have HBS := Lib.hid hBs
  clear hBs
  gi_wp2
  gi_loopw [3] (fun i wr => ∃ (k : Nat) (z : Int) (pre : List (Int × Tr)), k ≤ L.length ∧ i = .int .i64 z ∧ z + 1 = k ∧ pre.map (·.2) = (L.drop k).reverse ∧ J pre wr ∧ Below B W wr ∧ Boxed wr Bs 34 (.slice A L.length c))
    (fun i _ => (intOf i + 1).toNat)
  case atStart => exact ⟨L.length, _, [], Nat.le_refl _, rfl, by omega, by simp, h0, Below.refl _ _, HBS.out⟩
  case round =>
    obtain ⟨k, z, pre, hk, rfl, hz, hpre, hJs, hnx, hbx⟩ := hrel
    have e0 : wr.cell? ⟨Bs, 0, none⟩ = some (.slice A L.length c) := hbx.cell
    have HBX := Lib.hid hbx
    clear hbx
    by_cases hk0 : 1 ≤ k
    · obtain ⟨A', c', hv, hf⟩ := hR.below hnx
      injection hv with hv1 _ hv3
      subst hv1; subst hv3
      obtain ⟨b, off, rfl, hlt, hc⟩ := hf (by omega)
      obtain ⟨c0, c1, c2⟩ := hc (k - 1) (by omega)
      have hdrop : L.drop (k - 1) = L[k - 1] :: L.drop k := by
        have := List.drop_eq_getElem_cons (l := L) (i := k - 1) (by omega)
        rwa [show k - 1 + 1 = k by omega] at this
      have hpl : pre.length < L.length := by
        have : (pre.map (·.2)).length = pre.length := by simp
        rw [hpre] at this
        simp at this
        omega
      have hnb : NextB L pre (z, L[k - 1]) := by
        have hpl2 : pre.length = L.length - k := by
          have : (pre.map (·.2)).length = pre.length := by simp
          rw [hpre] at this
          simp at this
          omega
        refine ⟨hpl, ?_⟩
        have e : L.length - 1 - pre.length = k - 1 := by omega
        rw [Prod.mk.injEq]
        exact ⟨by omega, by simp only [e]⟩
      obtain ⟨x, hx⟩ : ∃ x, L[k - 1] = x := ⟨_, rfl⟩
      rw [hx] at c0 c1 c2 hdrop hnb
      obtain ⟨x1, x2, x3⟩ := x
      dsimp only [slv] at c2
      obtain ⟨fn, tmps, assign, body, hy, hR2⟩ := hY pre (z, x1, x2, x3) wr hJs hnb
      dsimp only [trV, slv] at hy
      have f1 : (0 : Int) ≤ z := by omega
      have f2 : z < (L.length : Int) := by omega
      have f3 : z.toNat = k - 1 := by omega
      have f4 : decide ((0 : Int) ≤ z) = true := decide_eq_true f1
      have HZ := Lib.hid hz
      have HP := Lib.hid hpre
      have HD := Lib.hid hdrop
      clear hz hpre hdrop hx hc hf hpl hnb
      gi_wp2
      refine hR2.mono ?_
      rintro e W3 (⟨rfl, hJ3, hk3⟩ | ⟨rfl, hJx3⟩)
      · gi_wp2
        go_roundw
        case rel => exact ⟨k - 1, z - 1, pre ++ [(z, x1, x2, x3)], by omega, by go_num, by have := HZ.out; omega, by simp [HP.out, HD.out], hJ3, hnx.trans hk3.below, hk3.boxed HBX.out⟩
        case measure => simp [intOf]; omega
      · gi_wp2
        refine bodyPost_ret (results_none rfl _ _ _) rfl ?_
        exact ⟨⟨_, rfl⟩, .inr ⟨_, hJx3⟩⟩
    · obtain rfl : k = 0 := by omega
      have f1 : ¬ (0 : Int) ≤ z := by omega
      have f4 : decide ((0 : Int) ≤ z) = false := decide_eq_false f1
      have HP := Lib.hid hpre
      clear hz hpre
      gi_wp2
      go_end0
      exact ⟨⟨_, rfl⟩, .inl ⟨pre, by simpa using HP.out, hJs⟩⟩
theorem back_seqG (n : Nat) (hn : 1 ≤ n) (Bs B : Nat) (t : TypeId) (A : Option Addr) (c : Nat) (L : List Tr) (hL : L.length ≤ 1000000) (w : World) (hBw : B ≤ w.heap.size) (hBs : Boxed w Bs 34 (.slice A L.length c)) (hR : RdX B w (.slice A L.length c) L) :
    SeqG n Try.prog 95 #[.pointer (some ⟨Bs, 0, none⟩)] t (fun x : Int × Tr => #[Value.int .i64 x.1, trV x.2]) (KpB B Bs) (fun ys => ys.map (·.2) = L.reverse) (fun _ => True) (NextB L) w := fun l J Jx W hW _ _ hY h0 => by
  have hbs : Boxed W Bs 34 (.slice A L.length c) := (hW.block Bs hBs.lt).trans hBs
  refine (back1G n hn l Bs B A c L hL J Jx hY W hbs (hR.below (hW.mono hBw)) h0).mono ?_
  rintro e W' ⟨he, ⟨ys, hy, hj⟩ | ⟨pre, hj⟩⟩
  · exact ⟨he, .inl ⟨ys, hy, hj⟩⟩
  · exact ⟨he, .inr ⟨pre, trivial, hj⟩⟩
namespace Fo
/-- The arrow from each to the next one: its kind, its number, its parts. -/
def arrF : Fo → Int × Int × Fo
  | nil => (0, 0, nil)
  | cons k n v ps r => if r.len = 0 then (k, n, ps) else (4, 0, cons k n v ps (cons r.arrF.1 r.arrF.2.1 (none, 0, 0) r.arrF.2.2 nil))
theorem len_drop (f : Fo) (j : Nat) : (f.drop j).len = f.len - j := by
  induction f generalizing j with
  | nil => cases j <;> simp [drop, len]
  | cons k n v ps r _ ih =>
    cases j with
    | zero => simp [drop]
    | succ j => simp [drop, len, ih]
theorem top_get (f : Fo) (j : Nat) (hj : j < f.top.length) : f.top[j] = ((f.at_ j).1, (f.at_ j).2.1, (f.at_ j).2.2.1) := by
  induction f generalizing j with
  | nil => simp [top] at hj
  | cons k n v ps r _ ih =>
    cases j with
    | zero => rfl
    | succ j => simpa [top, at_] using ih j (by simpa [top] using hj)
end Fo
/-- Two types, laid as a list's. -/
theorem FreshT.two {T : TypeId} {B : Nat} {w : World} {psx psy : Fo} {kx nx ky ny : Int} {ux uy vx vy : Sl} (hx : FreshT T B w idn psx ux) (hy : FreshT T B w idn psy uy) (c : Nat) (hB : B ≤ c) (hc : w.heap[c]? = some (Obj.cells #[.int .i64 kx, .int .i64 nx, slv ux, .int .i64 ky, .int .i64 ny, slv uy] T)) :
    FreshT T B w idn (.cons kx nx vx psx (.cons ky ny vy psy .nil)) (some ⟨c, 0, none⟩, 2, 2) := by
  intro W hs hk
  obtain ⟨gx, ix, tx⟩ := hx W hs hk
  obtain ⟨gy, iy, ty⟩ := hy W hs hk
  have hcW := hk c _ hB hc
  have cell := fun j => cell_of_row W c j _ _ (0, 0) hcW
  refine ⟨.cons kx nx ux gx (.cons ky ny uy gy .nil), ⟨rfl, (nm_id _ _).symm, ix, rfl, (nm_id _ _).symm, iy, trivial⟩, tyV_cons.2 ⟨c, 0, 2, rfl, Nat.le_refl _, by unfold maxLen; omega, (Array.getElem?_eq_some_iff.1 hcW).1, tyC_cons.2 ⟨cell 0, cell 1, cell 2, tx, tyC_cons.2 ⟨cell 3, cell 4, cell 5, ty, tyC_nil⟩⟩⟩⟩
end Go.Proofs.Ytcaclgaaaanfnaa
