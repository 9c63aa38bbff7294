/- Texts of one proof, one behind the other. -/
import Derived.RangeFuncNested
import Derived.RangeFuncBound
import Derived.RangeFuncCalls
import Derived.RangeFuncLeaves
import Derived.OwnWalkIn
import Derived.Lib.Hide
import Derived.Test.YtfoangiphbmipaaMgTermOrder3
import Derived.Test.YtfoangiphbmipaaMgTermOrder2
/- A range over a function whose iterator keeps what it has left in cells of its own: what an invariant must abide, the iterator's contract, and the statement. Nothing here speaks of the program. -/
namespace Go.Proofs.Ytfoangiphbmipaa
open Go.RowKit
variable {n : Nat} {P : Program}

/-- A step of the iterator's: new blocks, and one block of cells of type t, from B on, turned. -/
def CStep (B : Nat) (t : TypeId) (W W' : World) : Prop := ∃ row, W.grownBy W' row ∧ ∀ r, row = some r → B ≤ r ∧ ∃ cs, W.heap[r]? = some (.cells cs t)
/-- What abides such steps. -/
def AbC {β : Type} (B : Nat) (t : TypeId) (J : β → World → Prop) : Prop := ∀ s W W', J s W → CStep B t W W' → J s W'
/-- The iterator's contract. -/
def SeqC {α : Type} (n : Nat) (P : Program) (g : Nat) (lb : Array Value) (t : TypeId) (encs : α → Array Value) (Kp : World → World → Prop) (S Sp : List α → Prop) (N : Nat) (w : World) : Prop :=
  ∀ (l : Nat) (J Jx : List α → World → Prop) (W : World), Below w.heap.size w W → AbC W.heap.size t J → AbC W.heap.size t Jx →
    (∀ pre x W1, J pre W1 → pre.length < N → YieldAt Fence.wide (n - 1) P l (encs x) W1 fun e W' =>
      (e = .returned (.bool true) ∧ J (pre ++ [x]) W' ∧ Kp W1 W') ∨ (e = .returned (.bool false) ∧ Jx (pre ++ [x]) W')) → J [] W →
    CallsIn Fence.wide n P g (#[.func (.yield l) #[] #[]] ++ lb) W fun e W' => (∃ v, e = .returned v) ∧ ((∃ xs, S xs ∧ J xs W') ∨ (∃ pre, Sp pre ∧ Jx pre W'))
/-- A block that is no such cells lies as it lay. -/
theorem CStep.same {B : Nat} {t : TypeId} {W W' : World} (h : CStep B t W W') {k : Nat} {o : Obj} (hk : W.heap[k]? = some o) (ho : o.isCells = false) : W'.heap[k]? = some o := by
  obtain ⟨row, hg, hr⟩ := h
  refine (hg.block k (Array.getElem?_eq_some_iff.1 hk).1 fun e => ?_).trans hk
  obtain ⟨_, cs, hc⟩ := hr k e.symm
  rw [hk] at hc
  cases hc
  cases ho
theorem CStep.below {B C : Nat} {t : TypeId} {W W' : World} (h : CStep B t W W') (hC : C ≤ B) (hW : C ≤ W.heap.size) : Below C W W' := by
  obtain ⟨row, hg, hr⟩ := h
  exact ⟨hg.os, hg.tape, hg.output, hg.size, fun k hk => hg.block k (by omega) fun e => by have := (hr k e.symm).1; omega⟩
theorem CStep.mono {B C : Nat} {t : TypeId} {W W' : World} (h : CStep B t W W') (hC : C ≤ B) : CStep C t W W' := by
  obtain ⟨row, hg, hr⟩ := h
  exact ⟨row, hg, fun r e => ⟨Nat.le_trans hC (hr r e).1, (hr r e).2⟩⟩
theorem CStep.box {B : Nat} {t u : TypeId} {W W' : World} (h : CStep B t W W') (hne : u ≠ t) {b : Nat} {v : Value} (hb : Boxed W b u v) : Boxed W' b u v := by
  obtain ⟨row, hg, hr⟩ := h
  refine hb.kept hg fun e => ?_
  obtain ⟨_, cs, hc⟩ := hr b e.symm
  rw [show W.heap[b]? = _ from hb] at hc
  cases hc
  exact hne rfl
/-- What speaks of no world abides. -/
theorem AbC.pure {β : Type} {B : Nat} {t : TypeId} {p : β → Prop} : AbC B t (fun s (_ : World) => p s) := fun _ _ _ h _ => h
theorem AbC.and {β : Type} {B : Nat} {t : TypeId} {I J : β → World → Prop} (h : AbC B t I) (k : AbC B t J) : AbC B t (fun s W => I s W ∧ J s W) := fun s W W' hs hc => ⟨h s W W' hs.1 hc, k s W W' hs.2 hc⟩
/-- The two blocks that the statement lays: what it knows of them. -/
def Laid (w : World) (r : Loop) (W : World) : Prop := W.heap[w.heap.size + 1]? = some (.loop r) ∧ W.heap[w.heap.size]? = some (.deferred (some []))
theorem Laid.step {w : World} {r : Loop} {B : Nat} {t : TypeId} {W W' : World} (h : Laid w r W) (hc : CStep B t W W') : Laid w r W' := ⟨hc.same h.1 rfl, hc.same h.2 rfl⟩
theorem Laid.from {w : World} {r : Loop} {W W' : World} (h : Laid w r W) (hk : KeepsFrom w.heap.size W W') : Laid w r W' := ⟨hk.same _ _ (by omega) h.1 rfl, hk.same _ _ (Nat.le_refl _) h.2 rfl⟩
theorem Laid.put {w : World} {r : Loop} {W : World} (h : Laid w r W) (r' : Loop) : Laid w r' (W.putObj (w.heap.size + 1) (.loop r')) :=
  ⟨World.putObj_heap_same (Array.getElem?_eq_some_iff.1 h.1).1, (World.putObj_heap_other (by omega)).trans h.2⟩
theorem Laid.new (w : World) (r : Loop) : Laid w r ((w.alloc (.deferred (some []))).alloc (.loop r)) := by
  refine ⟨?_, (Below.heap_alloc _ _ _ (by simp)).trans (World.alloc_heap_new w _)⟩
  have := World.alloc_heap_new (w.alloc (.deferred (some []))) (.loop r)
  rwa [World.size_alloc] at this
/-- The statement. -/
theorem wpIn_rangeC {α : Type} {g : Operand} {ps : Array Tmp} {assign body : Code} {Q : Exit → Act → World → Prop} {a : Act} {w : World}
    (h1 : 1 ≤ n) {gf : Nat} {lb : Array Value} (hg : a.eval g = .func (.func gf) #[] lb) (eg : ∀ args w, (callFunc gf args).run P w = .ok (.enter gf args) w)
    {t : TypeId} {encs : α → Array Value} {Kp : World → World → Prop} {S Sp : List α → Prop} {N : Nat} {w0 : World} (hseq : SeqC (n - 1) P gf lb t encs Kp S Sp N w0) (hb0 : Below w0.heap.size w0 w)
    (hKt : ∀ {A B C : World}, Kp A B → Kp B C → Kp A C) (hKb : ∀ (W : World) (l : Nat) (o o' : Obj), w.heap.size ≤ l → W.heap[l]? = some o → o.isCells = false → o.isWalk = false → Kp W (W.putObj l o')) (hps : ∀ x, (encs x).size = ps.size)
    (I : List α → World → Prop) (Ix : Code → List α → World → Prop) (hI : OwnFrom w.heap.size I) (hIx : ∀ c, OwnFrom w.heap.size (Ix c)) (hIc : AbC w.heap.size t I) (hIxc : ∀ c, AbC w.heap.size t (Ix c)) (h0 : I [] w)
    (Ax : α → Act → World → Prop) (hAx : ∀ x a', OwnFrom w.heap.size (fun (_ : Unit) W => Ax x a' W))
    (hassign : ∀ (l : Nat) (pre : List α) (x : α) (W : World) (K : Act → World → Prop), I pre W → (∀ a' W', KeepsFrom w.heap.size W W' → Kp W W' → I pre W' → Ax x a' W' → K a' W') →
      assign.wpIn (Fence.wide.inRound l) (n - 1 - 1) P (Exit.then K (fun _ _ _ => False)) { tmps := (ps.zip (encs x)).foldl (fun t (p, v) => t.setIfInBounds p v) a.tmps, defers := [] } W)
    (hbody : ∀ (l : Nat) (pre : List α) (x : α) (a' : Act) (W : World), w.heap.size ≤ l → I pre W → Ax x a' W → pre.length < N → body.wpIn (Fence.wide.inRound l) (n - 1 - 1) P (ownPostG w.heap.size Kp I Ix (pre ++ [x]) W) a' W)
    (hdone : ∀ (D : Nat) (xs : List α) (W : World), w.heap.size ≤ D → S xs → I xs W → W.heap[D]? = some (.deferred (some [])) → Q .normal { a with defers := { target := .collected D, args := #[] } :: a.defers } W)
    (hstop : ∀ (D : Nat) (c : Code) (pre : List α) (W : World), w.heap.size ≤ D → Sp pre → Ix c pre W → W.heap[D]? = some (.deferred (some [])) → c.wpIn Fence.wide n P Q { a with defers := { target := .collected D, args := #[] } :: a.defers } W) :
    (Code.rangeFunc g ps assign body).wpIn Fence.wide n P Q a w := by
  refine wpIn_rangeFunc fun fn hfn => ?_
  obtain ⟨R, hR⟩ : ∃ R : LoopState → Option Code → Loop, R = fun st pe => { state := st, pending := pe, fn, tmps := a.tmps, params := ps, assign, body, defers := w.heap.size } := ⟨_, rfl⟩
  obtain ⟨W1, hW1⟩ : ∃ W1, (w.alloc (.deferred (some []))).alloc (.loop (R .ready none)) = W1 := ⟨_, rfl⟩
  have hL1 : Laid w (R .ready none) W1 := by rw [← hW1]; exact Laid.new w _
  have hI1 : I [] W1 := by rw [← hW1]; exact hI.alloc _ (hI.alloc _ h0)
  have hs1 : W1.heap.size = w.heap.size + 2 := by rw [← hW1]; simp
  have hb1 : Below w0.heap.size w0 W1 := by
    rw [← hW1]; exact hb0.trans ((((Below.refl _ w).alloc (Nat.le_refl _) _).alloc (by simp) _).mono hb0.size)
  -- the caller's word, put where a round's record stands
  have put : ∀ {r : Loop} (r' : Loop) {W : World}, Laid w r W → Kp W (W.putObj (w.heap.size + 1) (.loop r')) := fun r' W h => hKb _ _ _ _ (by omega) h.1 rfl rfl
  have wide : ∀ {W W' : World}, CStep W1.heap.size t W W' → CStep w.heap.size t W W' := fun h => h.mono (by omega)
  refine ⟨w.heap.size + 1, [{ target := .collected w.heap.size, args := #[] }], W1, { target := .fn (.func gf) lb, args := #[.func (.yield (w.heap.size + 1)) #[] #[]] }, W1, gf, #[.func (.yield (w.heap.size + 1)) #[] #[]] ++ lb, W1, ?_, ?_, ?_, ?_, fun _ => h1, ?_⟩
  · rw [← hW1, hR]; exact run_enterLoop_outer _ _ _ _ _
  · simp only [resolve, hg]; simp [go_sem]
  · exact fun _ _ => trivial
  · simp [invoke, go_sem, eg]
  refine (hseq (w.heap.size + 1) (fun pre W => I pre W ∧ Laid w (R .ready none) W) (fun pre W => ∃ c, Ix c pre W ∧ Laid w (R .done (some c)) W) W1 hb1
    (fun s X Y hs hc => ⟨hIc s X Y hs.1 (wide hc), hs.2.step hc⟩) (fun s X Y ⟨c, hs, hl⟩ hc => ⟨c, hIxc c s X Y hs (wide hc), hl.step hc⟩) ?_ ⟨hI1, hL1⟩).mono ?_
  · rintro pre x W ⟨hi, hl⟩ hlen
    have hy := run_yield (P := P) (args := encs x) hl.1 (by rw [hR]; exact hps x)
    rw [hR] at hy
    refine ⟨fn, _, assign, body, hy, roundIn_of_wpIn hfn (hassign _ pre x W _ hi ?_)⟩
    clear hy
    intro a' X hkX hpX hiX hax
    have hlX := hl.from hkX
    refine ⟨_, run_beginRound hlX.1 (by rw [hR]), ?_⟩
    have hlB := hlX.put { R .ready none with state := .busy }
    have hiB := hI.putObj (.loop { R .ready none with state := .busy }) hiX (by omega) hlX.1 rfl
    have haB := (hAx x a').putObj (s := ()) (.loop { R .ready none with state := .busy }) hax (by omega) hlX.1 rfl
    have hpB := hKt hpX (put { R .ready none with state := .busy } hlX)
    refine wpIn_mono (hbody _ pre x a' _ (by omega) hiB haB hlen) ?_
    have stop : ∀ (c : Code) (W3 : World), KeepsFrom w.heap.size (X.putObj (w.heap.size + 1) (.loop { R .ready none with state := .busy })) W3 → Ix c (pre ++ [x]) W3 →
        ∃ v w', (Instr.endRound (w.heap.size + 1) (some c)).run P W3 = .ok v w' ∧ (((.returned v : Ending) = .returned (.bool true) ∧ (I (pre ++ [x]) w' ∧ Laid w (R .ready none) w') ∧ Kp W w') ∨ ((.returned v : Ending) = .returned (.bool false) ∧ ∃ c, Ix c (pre ++ [x]) w' ∧ Laid w (R .done (some c)) w')) := by
      intro c W3 hk3 hi3
      have hl3 := hlB.from hk3
      have he := run_endRound (P := P) (some c) hl3.1
      refine ⟨_, _, he, .inr ⟨rfl, c, (hIx c).putObj _ hi3 (by omega) hl3.1 rfl, ?_⟩⟩
      have := hl3.put (R .done (some c))
      rw [hR] at this ⊢
      exact this
    rintro e a3 W3 hp
    cases e with
    | normal =>
      obtain ⟨hk3, hp3, hi3⟩ := hp
      have hl3 := hlB.from hk3
      have he := run_endRound (P := P) none hl3.1
      refine ⟨_, _, he, .inl ⟨rfl, ⟨hI.putObj _ hi3 (by omega) hl3.1 rfl, ?_⟩, hKt (hKt hpB hp3) (put _ hl3)⟩⟩
      have := hl3.put (R .ready none)
      rw [hR] at this ⊢
      exact this
    | ret => exact stop .ret W3 hp.1 hp.2
    | exit id => exact stop (.exit id) W3 hp.1 hp.2
    | goto t => exact stop (.goto t) W3 hp.1 hp.2
    | panic ch => exact hp.elim
    | outgrown => exact hp.elim
  · rintro e W2 ⟨⟨v, rfl⟩, (⟨xs, hS, hi, hl⟩ | ⟨pre, hSp, c, hi, hl⟩)⟩
    · have he := run_endLoop (P := P) hl.1 (by rw [hR]; simp)
      rw [hR] at he
      exact ⟨none, _, he, hdone _ xs _ (Nat.le_refl _) hS (hI.putObj _ hi (by omega) hl.1 rfl) ((World.putObj_heap_other (by omega)).trans hl.2)⟩
    · have he := run_endLoop (P := P) hl.1 (by rw [hR]; simp)
      rw [hR] at he
      exact ⟨some c, _, he, hstop _ c pre _ (Nat.le_refl _) hSp ((hIx c).putObj _ hi (by omega) hl.1 rfl) ((World.putObj_heap_other (by omega)).trans hl.2)⟩
end Go.Proofs.Ytfoangiphbmipaa
/- types.all: types and all that they are made of, each ahead of its parts: the plain facts, and what lies in memory. -/
namespace Go.Proofs.Ytfoangiphbmipaa
open Go.RowKit Go.Shelf
attribute [local go_sem] Oper.semAt_some

namespace Fo
/-- The types of a list themselves. -/
def top : Fo → List Tr
  | nil => []
  | cons k n u _ r => (k, n, u) :: r.top
/-- All of them, each ahead of its parts. -/
def pre : Fo → List Tr
  | nil => []
  | cons k n u ps r => (k, n, u) :: (ps.pre ++ r.pre)
theorem top_len (f : Fo) : f.top.length = f.len := by
  induction f with
  | nil => rfl
  | cons k n u ps r _ ih => simp [top, len, ih]
theorem pre_len (f : Fo) : f.pre.length = f.size := by
  induction f with
  | nil => rfl
  | cons k n u ps r ih1 ih2 => simp [pre, size, ih1, ih2]; omega
theorem top_app (f g : Fo) : (f.app g).top = f.top ++ g.top := by
  induction f with
  | nil => rfl
  | cons k n u ps r _ ih => simp [top, app, ih]
theorem pre_app (f g : Fo) : (f.app g).pre = f.pre ++ g.pre := by
  induction f with
  | nil => rfl
  | cons k n u ps r _ ih => simp [pre, app, ih]
/-- What is left when the first one gave way to its parts. -/
theorem pre_next (k n : Int) (u : Sl) (ps r : Fo) : (cons k n u ps r).pre = (k, n, u) :: (ps.app r).pre := by simp [pre, pre_app]
end Fo
/-- Each type's parts lie at its slice. -/
def TyL (B : Nat) (w : World) : Fo → Prop
  | .nil => True
  | .cons _ _ u ps r => TyV B w ps (slv u) ∧ TyL B w r
theorem TyL.app {B : Nat} {w : World} {f g : Fo} (h : TyL B w f) (k : TyL B w g) : TyL B w (f.app g) := by
  induction f with
  | nil => exact k
  | cons _ _ _ _ r _ ih => exact ⟨h.1, ih h.2⟩
theorem TyL.below {B : Nat} {w w' : World} {f : Fo} (h : TyL B w f) (hb : Below B w w') : TyL B w' f := by
  induction f with
  | nil => trivial
  | cons _ _ _ _ r _ ih => exact ⟨h.1.below hb, ih h.2⟩
theorem TyC.list {B : Nat} {w : World} {f : Fo} {b off : Nat} (h : TyC B w f b off) : TyL B w f := by
  induction f generalizing off with
  | nil => trivial
  | cons _ _ _ _ r _ ih => obtain ⟨_, _, _, h4, h5⟩ := tyC_cons.1 h; exact ⟨h4, ih h5⟩
theorem TyV.list {B : Nat} {w : World} {f : Fo} {v : Value} (h : TyV B w f v) : TyL B w f := by
  cases f with
  | nil => trivial
  | cons k n u ps r => obtain ⟨b, off, cap, _, _, _, _, hc⟩ := tyV_cons.1 h; exact TyC.list hc
theorem tyC_rd {B : Nat} {w : World} {f : Fo} {b off : Nat} (h : TyC B w f b off) : ∀ i (hi : i < f.top.length), w.cell? ⟨b, off + i * 3, none⟩ = some (.int .i64 f.top[i].1) ∧ w.cell? ⟨b, off + i * 3 + 1, none⟩ = some (.int .i64 f.top[i].2.1) ∧ w.cell? ⟨b, off + i * 3 + 2, none⟩ = some (slv f.top[i].2.2) := by
  induction f generalizing off with
  | nil => intro i hi; simp [Fo.top] at hi
  | cons k n u ps r _ ih =>
    obtain ⟨h1, h2, h3, _, h5⟩ := tyC_cons.1 h
    intro i hi
    cases i with
    | zero => simpa [Fo.top] using ⟨h1, h2, h3⟩
    | succ i =>
      have := ih h5 i (by simpa [Fo.top] using hi)
      rw [show off + (i + 1) * 3 = off + 3 + i * 3 by omega]
      simpa [Fo.top] using this
theorem TyV.rd {B : Nat} {w : World} {f : Fo} {v : Value} (h : TyV B w f v) : RdX B w v f.top := by
  cases f with
  | nil =>
    obtain ⟨A, c, rfl⟩ := tyV_nil.1 h
    exact ⟨A, c, rfl, fun h => by simp [Fo.top] at h⟩
  | cons k n u ps r =>
    obtain ⟨b, off, cap, rfl, _, _, hb, hc⟩ := tyV_cons.1 h
    exact ⟨_, cap, by rw [Fo.top_len]; rfl, fun _ => ⟨b, off, rfl, hb, tyC_rd hc⟩⟩
/-- The stack: the first type lies last. -/
def stk (R : Fo) : List Value := R.top.reverse.flatMap trC
theorem stk_cons (k n : Int) (u : Sl) (ps r : Fo) : stk (.cons k n u ps r) = stk r ++ trC (k, n, u) := by simp [stk, Fo.top]
theorem stk_app (f r : Fo) : stk (f.app r) = stk r ++ f.top.reverse.flatMap trC := by simp [stk, Fo.top_app]
theorem trC_len (L : List Tr) : (L.flatMap trC).length = L.length * 3 := by
  induction L with
  | nil => rfl
  | cons x L ih => simp [trC, ih]; omega
theorem stk_len (R : Fo) : (stk R).length = R.len * 3 := by rw [stk, trC_len]; simp [Fo.top_len]
/-- A row of the call's own, cut. -/
theorem own_cut {w : World} {base : Nat} {e : TypeId} {size : Nat} {A : Option Addr} {n c : Nat} {xs ys : List Value} (h : w.ownsRow base e size (.slice A n c) n (xs ++ ys)) (k : Nat) (hk : k ≤ n) (hx : xs.length = k * size) : w.ownsRow base e size (.slice A k c) k xs := by
  refine ⟨hx, ?_⟩
  rcases h.2 with ⟨h0, h1⟩ | ⟨g, cap, cur, h0, hb, hg, hnc, hcm, hcs, htake⟩
  · injection h0 with h2 h3 h4
    subst h2; subst h4
    obtain rfl : k = 0 := by omega
    exact .inl ⟨rfl, rfl⟩
  · injection h0 with h2 h3 h4
    subst h2; subst h4
    refine .inr ⟨g, c, cur, rfl, hb, hg, by omega, hcm, hcs, ?_⟩
    have : (cur.toList.take (n * size)).take (k * size) = (xs ++ ys).take (k * size) := by rw [htake]
    rw [List.take_take, Nat.min_eq_left (Nat.mul_le_mul_right _ hk)] at this
    rw [this, ← hx, List.take_left]
/-- What a round keeps: whatever lay below B, and every block of types. -/
structure KpC (B : Nat) (W W' : World) : Prop where
  below : Below B W W'
  kept : ∀ (k : Nat) (cs : Array Value), W.heap[k]? = some (Obj.cells cs 24) → W'.heap[k]? = some (Obj.cells cs 24)
theorem KpC.t {B : Nat} {X Y Z : World} (h : KpC B X Y) (k : KpC B Y Z) : KpC B X Z := ⟨h.below.trans k.below, fun i cs hi => k.kept i cs (h.kept i cs hi)⟩
theorem KpC.b {B : Nat} {w : World} (hn : B ≤ w.heap.size) (W : World) (l : Nat) (o o' : Obj) (hl : w.heap.size ≤ l) (h : W.heap[l]? = some o) (h1 : o.isCells = false) (h2 : o.isWalk = false) : KpC B W (W.putObj l o') := by
  refine ⟨belowK_b hn W l o o' hl h h1 h2, fun k cs hk => ?_⟩
  refine ((grownBy_putObj' W l o').block k (Array.getElem?_eq_some_iff.1 hk).1 fun e => ?_).trans hk
  cases e
  rw [h] at hk
  cases hk
  cases h1
theorem KpC.of_below {B : Nat} {W W' : World} (h : Below W.heap.size W W') (hB : B ≤ W.heap.size) : KpC B W W' :=
  ⟨h.mono hB, fun k _ hk => (h.block k (Array.getElem?_eq_some_iff.1 hk).1).trans hk⟩
theorem KpC.own {B base : Nat} {W W' : World} {v : Value} {n : Nat} {xs : List Value} (h : KpC B W W') (ho : W.ownsRow base 24 3 v n xs) : W'.ownsRow base 24 3 v n xs := by
  refine ⟨ho.1, ?_⟩
  rcases ho.2 with h0 | ⟨g, cap, cur, h0, hb, hg, hr⟩
  · exact .inl h0
  · exact .inr ⟨g, cap, cur, h0, hb, h.kept _ _ hg, hr⟩
end Go.Proofs.Ytfoangiphbmipaa
/- A type that is copied, its variables' numbers changed: what lies still to be done (holes), and that the whole reads as it ought once they are done. Nothing here speaks of the program. -/
namespace Go.Proofs.Ytfoangiphbmipaa
open Go.RowKit

/-- A place where a type still lies as it came. -/
structure Hole where
  b : Nat
  off : Nat
  k : Int
  n : Int
  u : Sl
  ps : Fo
/-- What becomes of a number. -/
def nm (num : Int → Int) (k n : Int) : Int := if k = 1 then num n else n
/-- The one is the other, its variables' numbers changed. -/
def Img (num : Int → Int) : Fo → Fo → Prop
  | .nil, .nil => True
  | .cons k n _ ps r, .cons k' n' _ ps' r' => k' = k ∧ n' = nm num k n ∧ Img num ps ps' ∧ Img num r r'
  | _, _ => False
theorem Img.len {num : Int → Int} {f g : Fo} (h : Img num f g) : g.len = f.len := by
  induction f generalizing g with
  | nil => cases g <;> simp_all [Img, Fo.len]
  | cons k n u ps r _ ih =>
    cases g with
    | nil => simp [Img] at h
    | cons k' n' u' ps' r' => simp only [Img] at h; simp only [Fo.len, ih h.2.2.2]
theorem Img.size {num : Int → Int} {f g : Fo} (h : Img num f g) : g.size = f.size := by
  induction f generalizing g with
  | nil => cases g <;> simp_all [Img, Fo.size]
  | cons k n u ps r ih1 ih =>
    cases g with
    | nil => simp [Img] at h
    | cons k' n' u' ps' r' => simp only [Img] at h; simp only [Fo.size, ih h.2.2.2, ih1 h.2.2.1]
/-- A type's three cells at a place, its parts behind. -/
def TyAt (W : World) (b off : Nat) (k n : Int) (g : Fo) : Prop :=
  W.cell? ⟨b, off, none⟩ = some (.int .i64 k) ∧ W.cell? ⟨b, off + 1, none⟩ = some (.int .i64 n) ∧ ∃ u : Sl, W.cell? ⟨b, off + 2, none⟩ = some (slv u) ∧ TyV W.heap.size W g (slv u)
/-- A block of types, but for the one at rt. -/
def isT (T : TypeId) (rt : Nat) (w : World) (b : Nat) : Prop := b ≠ rt ∧ ∃ cs, w.heap[b]? = some (Obj.cells cs T)
theorem isT.lt {T : TypeId} {rt : Nat} {w : World} {b : Nat} (h : isT T rt w b) : b < w.heap.size := by
  obtain ⟨_, cs, h⟩ := h
  exact (Array.getElem?_eq_some_iff.1 h).1
/-- Aside of some holes. -/
def Aside (Hs : List Hole) (b off : Nat) : Prop := ∀ h ∈ Hs, h.b = b → off < h.off ∨ h.off + 3 ≤ off
/-- Once the holes are done, the whole is. -/
def Wand (num : Int → Int) (T : TypeId) (rt : Nat) (B : Nat) (rb : Nat) (k n : Int) (ps : Fo) (w : World) (Hs : List Hole) : Prop :=
  ∀ W : World, w.heap.size ≤ W.heap.size → (∀ h ∈ Hs, ∃ g, Img num h.ps g ∧ TyAt W h.b h.off h.k (nm num h.k h.n) g) →
    (∀ b off, B ≤ b → isT T rt w b → Aside Hs b off → W.cell? ⟨b, off, none⟩ = w.cell? ⟨b, off, none⟩) → ∃ g, Img num ps g ∧ TyAt W rb 0 k (nm num k n) g
/-- The holes of a new list. -/
def holesOf (c : Nat) : Nat → Fo → List Hole
  | _, .nil => []
  | off, .cons k n u ps r => ⟨c, off, k, n, u, ps⟩ :: holesOf c (off + 3) r
theorem holesOf_len (c off : Nat) (f : Fo) : (holesOf c off f).length = f.len := by
  induction f generalizing off with
  | nil => rfl
  | cons k n u ps r _ ih => simp [holesOf, Fo.len, ih]
theorem holesOf_b {c off : Nat} {f : Fo} {h : Hole} (hm : h ∈ holesOf c off f) : h.b = c ∧ off ≤ h.off := by
  induction f generalizing off with
  | nil => simp [holesOf] at hm
  | cons k n u ps r _ ih =>
    simp only [holesOf, List.mem_cons] at hm
    rcases hm with rfl | hm
    · exact ⟨rfl, Nat.le_refl _⟩
    · have := ih hm; exact ⟨this.1, by omega⟩
/-- Apart. -/
def Apart (x y : Hole) : Prop := x.b = y.b → x.off + 3 ≤ y.off ∨ y.off + 3 ≤ x.off
theorem holesOf_apart (c off : Nat) (f : Fo) : (holesOf c off f).Pairwise Apart := by
  induction f generalizing off with
  | nil => exact List.Pairwise.nil
  | cons k n u ps r _ ih =>
    refine List.Pairwise.cons (fun h hm _ => .inl ?_) (ih (off + 3))
    exact (holesOf_b hm).2
/-- The sum of what is left. -/
def left_ (Hs : List Hole) : Nat := (Hs.map fun h => 1 + h.ps.size).sum
theorem left_app (a b : List Hole) : left_ (a ++ b) = left_ a + left_ b := by simp [left_]
theorem left_holes (c off : Nat) (f : Fo) : left_ (holesOf c off f) = f.size := by
  induction f generalizing off with
  | nil => rfl
  | cons k n u ps r _ ih => simp only [holesOf, left_, List.map_cons, List.sum_cons, Fo.size]; have := ih (off + 3); simp only [left_] at this; omega
theorem left_len (Hs : List Hole) : Hs.length ≤ left_ Hs := by
  induction Hs with
  | nil => simp [left_]
  | cons h l ih => simp only [left_, List.map_cons, List.sum_cons, List.length_cons] at ih ⊢; omega
theorem holes_read {num : Int → Int} {W : World} {c : Nat} (f : Fo) (off : Nat) (h : ∀ h ∈ holesOf c off f, ∃ g, Img num h.ps g ∧ TyAt W h.b h.off h.k (nm num h.k h.n) g) : ∃ G, Img num f G ∧ TyC W.heap.size W G c off := by
  induction f generalizing off with
  | nil => exact ⟨.nil, trivial, tyC_nil⟩
  | cons k n u ps r _ ih =>
    obtain ⟨G, hG, hC⟩ := ih (off + 3) (fun x hx => h x (by simp only [holesOf]; exact List.mem_cons_of_mem _ hx))
    obtain ⟨g, hg, c0, c1, u2, c2, hv⟩ := h ⟨c, off, k, n, u, ps⟩ (by simp only [holesOf]; exact List.mem_cons_self)
    exact ⟨.cons k (nm num k n) u2 g G, ⟨rfl, rfl, hg, hG⟩, tyC_cons.2 ⟨c0, c1, c2, hv, hC⟩⟩
theorem Wand.step {num : Int → Int} {T : TypeId} {rt : Nat} {B rb : Nat} {k n : Int} {ps : Fo} {w w2 : World} {Hs : List Hole} {h : Hole} (hW : Wand num T rt B rb k n ps w (Hs ++ [h]))
    (hap : ∀ x ∈ Hs, Apart x h) (hB : B ≤ h.b) (hT : isT T rt w h.b)
    (hs : w.heap.size ≤ w2.heap.size) (hk : ∀ b off, B ≤ b → isT T rt w b → isT T rt w2 b ∧ (Aside [h] b off → w2.cell? ⟨b, off, none⟩ = w.cell? ⟨b, off, none⟩))
    {u2 : Sl} (h0 : w2.cell? ⟨h.b, h.off, none⟩ = some (.int .i64 h.k)) (h1 : w2.cell? ⟨h.b, h.off + 1, none⟩ = some (.int .i64 (nm num h.k h.n))) (h2 : w2.cell? ⟨h.b, h.off + 2, none⟩ = some (slv u2))
    {c : Nat} (hc : w.heap.size ≤ c) (hu : (h.ps.len = 0 ∧ ∃ A cp, u2 = (A, 0, cp)) ∨ (0 < h.ps.len ∧ c < w2.heap.size ∧ ∃ cp, u2 = (some ⟨c, 0, none⟩, h.ps.len, cp) ∧ h.ps.len ≤ cp ∧ cp ≤ maxLen)) :
    Wand num T rt B rb k n ps w2 (Hs ++ holesOf c 0 h.ps) := by
  intro W hsz hdone hfr
  have out : ∀ b off, b < w.heap.size → Aside Hs b off → Aside (Hs ++ holesOf c 0 h.ps) b off := by
    intro b off hb ha x hx hxb
    rcases List.mem_append.1 hx with hx | hx
    · exact ha x hx hxb
    · have := (holesOf_b hx).1
      omega
  have inH : ∀ j, j < 3 → Aside Hs h.b (h.off + j) := by
    intro j hj x hx hxb
    rcases hap x hx hxb with h' | h'
    · exact .inr (by omega)
    · exact .inl (by omega)
  have hat : ∀ j, j < 3 → W.cell? ⟨h.b, h.off + j, none⟩ = w2.cell? ⟨h.b, h.off + j, none⟩ := fun j hj => hfr h.b _ hB (hk h.b 0 hB hT).1 (out _ _ hT.lt (inH j hj))
  refine hW W (Nat.le_trans hs hsz) ?_ ?_
  · intro x hx
    rcases List.mem_append.1 hx with hx | hx
    · exact hdone x (List.mem_append_left _ hx)
    · have hxh : x = h := by simpa using hx
      rw [hxh]
      obtain ⟨G, hG, hC⟩ := holes_read h.ps 0 (fun y hy => hdone y (List.mem_append_right _ hy))
      refine ⟨G, hG, (hat 0 (by omega)).trans h0, (hat 1 (by omega)).trans h1, u2, (hat 2 (by omega)).trans h2, ?_⟩
      have hGl := hG.len
      rcases hu with ⟨hz, A, cp, rfl⟩ | ⟨hp, hc2, cp, rfl, hcp, hcm⟩
      · cases G with
        | nil => exact tyV_nil.2 ⟨A, cp, rfl⟩
        | cons => simp only [Fo.len] at hGl; omega
      · cases G with
        | nil => simp only [Fo.len] at hGl; omega
        | cons k' n' u' ps' r' =>
          simp only [Fo.len] at hGl
          exact tyV_cons.2 ⟨c, 0, cp, by rw [hGl]; rfl, by omega, hcm, by omega, hC⟩
  · intro b off hb hbT ha
    have hA1 : Aside Hs b off := fun x hx => ha x (List.mem_append_left _ hx)
    have hA2 : Aside [h] b off := fun x hx => ha x (List.mem_append_right _ hx)
    rw [hfr b off hb (hk b off hb hbT).1 (out b off hbT.lt hA1)]
    exact (hk b off hb hbT).2 hA2
end Go.Proofs.Ytfoangiphbmipaa
