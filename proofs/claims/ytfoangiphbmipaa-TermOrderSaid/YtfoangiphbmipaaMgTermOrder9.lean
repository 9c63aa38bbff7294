/- Texts of one proof, one behind the other. -/
import Derived.Test.YtfoangiphbmipaaMgTermOrder4
import Derived.Test.YtfoangiphbmipaaMgTermOrder8
import Derived.Test.YtfoangiphbmipaaMgTermOrder3
import Derived.Test.YtfoangiphbmipaaMgTermOrder5
/- A range over a function of which it is known what may come next. Nothing here speaks of the program. -/
namespace Go.Proofs.Ytfoangiphbmipaa
open Go.RowKit
variable {n : Nat} {P : Program}

/-- The iterator's contract. -/
def SeqG {α : Type} (n : Nat) (P : Program) (g : Nat) (lb : Array Value) (t : TypeId) (encs : α → Array Value) (Kp : World → World → Prop) (S Sp : List α → Prop) (G : List α → α → Prop) (w : World) : Prop :=
  ∀ (l : Nat) (J Jx : List α → World → Prop) (W : World), Below w.heap.size w W → AbC W.heap.size t J → AbC W.heap.size t Jx →
    (∀ pre x W1, J pre W1 → G pre x → YieldAt Fence.wide (n - 1) P l (encs x) W1 fun e W' =>
      (e = .returned (.bool true) ∧ J (pre ++ [x]) W' ∧ Kp W1 W') ∨ (e = .returned (.bool false) ∧ Jx (pre ++ [x]) W')) → J [] W →
    CallsIn Fence.wide n P g (#[.func (.yield l) #[] #[]] ++ lb) W fun e W' => (∃ v, e = .returned v) ∧ ((∃ xs, S xs ∧ J xs W') ∨ (∃ pre, Sp pre ∧ Jx pre W'))
/-- The statement. -/
theorem wpIn_rangeG {α : Type} {g : Operand} {ps : Array Tmp} {assign body : Code} {Q : Exit → Act → World → Prop} {a : Act} {w : World}
    (h1 : 1 ≤ n) {gf : Nat} {lb : Array Value} (hg : a.eval g = .func (.func gf) #[] lb) (eg : ∀ args w, (callFunc gf args).run P w = .ok (.enter gf args) w)
    {t : TypeId} {encs : α → Array Value} {Kp : World → World → Prop} {S Sp : List α → Prop} {G : List α → α → Prop} {w0 : World} (hseq : SeqG (n - 1) P gf lb t encs Kp S Sp G w0) (hb0 : Below w0.heap.size w0 w)
    (hKt : ∀ {A B C : World}, Kp A B → Kp B C → Kp A C) (hKb : ∀ (W : World) (l : Nat) (o o' : Obj), w.heap.size ≤ l → W.heap[l]? = some o → o.isCells = false → o.isWalk = false → Kp W (W.putObj l o')) (hps : ∀ x, (encs x).size = ps.size)
    (I : List α → World → Prop) (Ix : Code → List α → World → Prop) (hI : OwnFrom w.heap.size I) (hIx : ∀ c, OwnFrom w.heap.size (Ix c)) (hIc : AbC w.heap.size t I) (hIxc : ∀ c, AbC w.heap.size t (Ix c)) (h0 : I [] w)
    (Ax : α → Act → World → Prop) (hAx : ∀ x a', OwnFrom w.heap.size (fun (_ : Unit) W => Ax x a' W))
    (hassign : ∀ (l : Nat) (pre : List α) (x : α) (W : World) (K : Act → World → Prop), I pre W → (∀ a' W', KeepsFrom w.heap.size W W' → Kp W W' → I pre W' → Ax x a' W' → K a' W') →
      assign.wpIn (Fence.wide.inRound l) (n - 1 - 1) P (Exit.then K (fun _ _ _ => False)) { tmps := (ps.zip (encs x)).foldl (fun t (p, v) => t.setIfInBounds p v) a.tmps, defers := [] } W)
    (hbody : ∀ (l : Nat) (pre : List α) (x : α) (a' : Act) (W : World), w.heap.size ≤ l → I pre W → Ax x a' W → G pre x → body.wpIn (Fence.wide.inRound l) (n - 1 - 1) P (ownPostG w.heap.size Kp I Ix (pre ++ [x]) W) a' W)
    (hdone : ∀ (D : Nat) (xs : List α) (W : World), w.heap.size ≤ D → S xs → I xs W → W.heap[D]? = some (.deferred (some [])) → Q .normal { a with defers := { target := .collected D, args := #[] } :: a.defers } W)
    (hstop : ∀ (D : Nat) (c : Code) (pre : List α) (W : World), w.heap.size ≤ D → Sp pre → Ix c pre W → W.heap[D]? = some (.deferred (some [])) → c.wpIn Fence.wide n P Q { a with defers := { target := .collected D, args := #[] } :: a.defers } W) :
    (Code.rangeFunc g ps assign body).wpIn Fence.wide n P Q a w := by
  refine wpIn_rangeFunc fun fn hfn => ?_
  obtain ⟨R, hR⟩ : ∃ R : LoopState → Option Code → Loop, R = fun st pe => { state := st, pending := pe, fn, tmps := a.tmps, params := ps, assign, body, defers := w.heap.size } := ⟨_, rfl⟩
  obtain ⟨W1, hW1⟩ : ∃ W1, (w.alloc (.deferred (some []))).alloc (.loop (R .ready none)) = W1 := ⟨_, rfl⟩
  have hL1 : Laid w (R .ready none) W1 := by rw [← hW1]; exact Laid.new w _
  have hI1 : I [] W1 := by rw [← hW1]; exact hI.alloc _ (hI.alloc _ h0)
  have hs1 : W1.heap.size = w.heap.size + 2 := by rw [← hW1]; simp
  have hb1 : Below w0.heap.size w0 W1 := by
    rw [← hW1]; exact hb0.trans ((((Below.refl _ w).alloc (Nat.le_refl _) _).alloc (by simp) _).mono hb0.size)
  -- the caller's word, put where a round's record stands
  have put : ∀ {r : Loop} (r' : Loop) {W : World}, Laid w r W → Kp W (W.putObj (w.heap.size + 1) (.loop r')) := fun r' W h => hKb _ _ _ _ (by omega) h.1 rfl rfl
  have wide : ∀ {W W' : World}, CStep W1.heap.size t W W' → CStep w.heap.size t W W' := fun h => h.mono (by omega)
  refine ⟨w.heap.size + 1, [{ target := .collected w.heap.size, args := #[] }], W1, { target := .fn (.func gf) lb, args := #[.func (.yield (w.heap.size + 1)) #[] #[]] }, W1, gf, #[.func (.yield (w.heap.size + 1)) #[] #[]] ++ lb, W1, ?_, ?_, ?_, ?_, fun _ => h1, ?_⟩
  · rw [← hW1, hR]; exact run_enterLoop_outer _ _ _ _ _
  · simp only [resolve, hg]; simp [go_sem]
  · exact fun _ _ => trivial
  · simp [invoke, go_sem, eg]
  refine (hseq (w.heap.size + 1) (fun pre W => I pre W ∧ Laid w (R .ready none) W) (fun pre W => ∃ c, Ix c pre W ∧ Laid w (R .done (some c)) W) W1 hb1
    (fun s X Y hs hc => ⟨hIc s X Y hs.1 (wide hc), hs.2.step hc⟩) (fun s X Y ⟨c, hs, hl⟩ hc => ⟨c, hIxc c s X Y hs (wide hc), hl.step hc⟩) ?_ ⟨hI1, hL1⟩).mono ?_
  · rintro pre x W ⟨hi, hl⟩ hlen
    have hy := run_yield (P := P) (args := encs x) hl.1 (by rw [hR]; exact hps x)
    rw [hR] at hy
    refine ⟨fn, _, assign, body, hy, roundIn_of_wpIn hfn (hassign _ pre x W _ hi ?_)⟩
    clear hy
    intro a' X hkX hpX hiX hax
    have hlX := hl.from hkX
    refine ⟨_, run_beginRound hlX.1 (by rw [hR]), ?_⟩
    have hlB := hlX.put { R .ready none with state := .busy }
    have hiB := hI.putObj (.loop { R .ready none with state := .busy }) hiX (by omega) hlX.1 rfl
    have haB := (hAx x a').putObj (s := ()) (.loop { R .ready none with state := .busy }) hax (by omega) hlX.1 rfl
    have hpB := hKt hpX (put { R .ready none with state := .busy } hlX)
    refine wpIn_mono (hbody _ pre x a' _ (by omega) hiB haB hlen) ?_
    have stop : ∀ (c : Code) (W3 : World), KeepsFrom w.heap.size (X.putObj (w.heap.size + 1) (.loop { R .ready none with state := .busy })) W3 → Ix c (pre ++ [x]) W3 →
        ∃ v w', (Instr.endRound (w.heap.size + 1) (some c)).run P W3 = .ok v w' ∧ (((.returned v : Ending) = .returned (.bool true) ∧ (I (pre ++ [x]) w' ∧ Laid w (R .ready none) w') ∧ Kp W w') ∨ ((.returned v : Ending) = .returned (.bool false) ∧ ∃ c, Ix c (pre ++ [x]) w' ∧ Laid w (R .done (some c)) w')) := by
      intro c W3 hk3 hi3
      have hl3 := hlB.from hk3
      have he := run_endRound (P := P) (some c) hl3.1
      refine ⟨_, _, he, .inr ⟨rfl, c, (hIx c).putObj _ hi3 (by omega) hl3.1 rfl, ?_⟩⟩
      have := hl3.put (R .done (some c))
      rw [hR] at this ⊢
      exact this
    rintro e a3 W3 hp
    cases e with
    | normal =>
      obtain ⟨hk3, hp3, hi3⟩ := hp
      have hl3 := hlB.from hk3
      have he := run_endRound (P := P) none hl3.1
      refine ⟨_, _, he, .inl ⟨rfl, ⟨hI.putObj _ hi3 (by omega) hl3.1 rfl, ?_⟩, hKt (hKt hpB hp3) (put _ hl3)⟩⟩
      have := hl3.put (R .ready none)
      rw [hR] at this ⊢
      exact this
    | ret => exact stop .ret W3 hp.1 hp.2
    | exit id => exact stop (.exit id) W3 hp.1 hp.2
    | goto t => exact stop (.goto t) W3 hp.1 hp.2
    | panic ch => exact hp.elim
    | outgrown => exact hp.elim
  · rintro e W2 ⟨⟨v, rfl⟩, (⟨xs, hS, hi, hl⟩ | ⟨pre, hSp, c, hi, hl⟩)⟩
    · have he := run_endLoop (P := P) hl.1 (by rw [hR]; simp)
      rw [hR] at he
      exact ⟨none, _, he, hdone _ xs _ (Nat.le_refl _) hS (hI.putObj _ hi (by omega) hl.1 rfl) ((World.putObj_heap_other (by omega)).trans hl.2)⟩
    · have he := run_endLoop (P := P) hl.1 (by rw [hR]; simp)
      rw [hR] at he
      exact ⟨some c, _, he, hstop _ c pre _ (Nat.le_refl _) hSp ((hIx c).putObj _ hi (by omega) hl.1 rfl) ((World.putObj_heap_other (by omega)).trans hl.2)⟩
end Go.Proofs.Ytfoangiphbmipaa
/- A range over a function whose iterator has blocks of its own: what an invariant must abide, the iterator's contract, and the statement. Nothing here speaks of the program. -/
namespace Go.Proofs.Ytfoangiphbmipaa
open Go.RowKit
variable {n : Nat} {P : Program}

/-- A step that turns blocks of a set alone, and lays new ones. -/
structure Stp (O : Nat → Prop) (W W' : World) : Prop where
  os : W'.os = W.os
  tape : W'.tape = W.tape
  output : W'.output = W.output
  size : W.heap.size ≤ W'.heap.size
  block : ∀ k, k < W.heap.size → ¬ O k → W'.heap[k]? = W.heap[k]?
theorem Stp.refl (O : Nat → Prop) (W : World) : Stp O W W := ⟨rfl, rfl, rfl, Nat.le_refl _, fun _ _ _ => rfl⟩
theorem Stp.trans {O O' : Nat → Prop} {A B C : World} (h : Stp O A B) (k : Stp O' B C) (hO : ∀ i, i < A.heap.size → O' i → O i) : Stp O A C :=
  ⟨k.os.trans h.os, k.tape.trans h.tape, k.output.trans h.output, Nat.le_trans h.size k.size, fun i hi hn => (k.block i (Nat.lt_of_lt_of_le hi h.size) fun h' => hn (hO i hi h')).trans (h.block i hi hn)⟩
theorem Stp.below {O : Nat → Prop} {W W' : World} (h : Stp O W W') {B : Nat} (hB : ∀ k, O k → B ≤ k) (hW : B ≤ W.heap.size) : Below B W W' :=
  ⟨h.os, h.tape, h.output, h.size, fun k hk => h.block k (by omega) fun hO => by have := hB k hO; omega⟩
theorem Stp.of_below {O : Nat → Prop} {W W' : World} (h : Below W.heap.size W W') : Stp O W W' := ⟨h.os, h.tape, h.output, h.size, fun k hk _ => h.block k hk⟩
theorem Stp.grown {O : Nat → Prop} {W W' : World} {row : Option Nat} (h : W.grownBy W' row) (hr : ∀ r, row = some r → O r ∨ W.heap.size ≤ r) : Stp O W W' :=
  ⟨h.os, h.tape, h.output, h.size, fun k hk hn => h.block k hk fun e => (hr k e.symm).elim hn (by omega)⟩
/-- What abides such steps, the set growing by new blocks alone. -/
def AbS {β : Type} (J : (Nat → Prop) → β → World → Prop) : Prop := ∀ O O' s W W', J O s W → Stp O W W' → (∀ k, k < W.heap.size → O' k → O k) → J O' s W'
/-- What a visitor keeps. -/
structure Kq (O : Nat → Prop) (B : Nat) (W W' : World) : Prop where
  below : Below B W W'
  own : ∀ k, O k → W'.heap[k]? = W.heap[k]?
theorem Kq.t {O : Nat → Prop} {B : Nat} {X Y Z : World} (h : Kq O B X Y) (k : Kq O B Y Z) : Kq O B X Z := ⟨h.below.trans k.below, fun i hi => (k.own i hi).trans (h.own i hi)⟩
theorem Kq.refl (O : Nat → Prop) (B : Nat) (W : World) : Kq O B W W := ⟨Below.refl _ _, fun _ _ => rfl⟩
theorem Kq.of_below {O : Nat → Prop} {B : Nat} {W W' : World} (h : Below W.heap.size W W') (hB : B ≤ W.heap.size) (hO : ∀ k, O k → k < W.heap.size) : Kq O B W W' := ⟨h.mono hB, fun k hk => h.block k (hO k hk)⟩
theorem Kq.grown {O : Nat → Prop} {B : Nat} {W W' : World} {row : Option Nat} (h : W.grownBy W' row) (hB : B ≤ W.heap.size) (hO : ∀ k, O k → k < W.heap.size) (hr : ∀ r, row = some r → B ≤ r ∧ ¬ O r) : Kq O B W W' :=
  ⟨(Below.refl _ _).grown h hB fun k e => (hr k e).1, fun k hk => h.block k (hO k hk) fun e => (hr k e.symm).2 hk⟩
theorem AbS.pure {β : Type} {p : β → Prop} : AbS (fun _ s (_ : World) => p s) := fun _ _ _ _ _ h _ _ => h
theorem AbS.and {β : Type} {I J : (Nat → Prop) → β → World → Prop} (h : AbS I) (k : AbS J) : AbS (fun O s W => I O s W ∧ J O s W) := fun O O' s W W' hs hc hO => ⟨h O O' s W W' hs.1 hc hO, k O O' s W W' hs.2 hc hO⟩
theorem AbS.box {β : Type} {b : Nat} {u : TypeId} {f : β → Value} : AbS (fun O s W => Boxed W b u (f s) ∧ ¬ O b) := fun _ _ _ _ _ hs hc hO =>
  ⟨(hc.block b hs.1.lt hs.2).trans hs.1, fun h => hs.2 (hO b hs.1.lt h)⟩
theorem AbS.below {β : Type} {C : Nat} {w : World} (hw : C ≤ w.heap.size) : AbS (fun O (_ : β) W => Below C w W ∧ ∀ k, O k → C ≤ k) := fun _ _ _ W _ hs hc hO =>
  ⟨hs.1.trans (hc.below hs.2 (Nat.le_trans hw hs.1.size)), fun k hk => by
    by_cases h : k < W.heap.size
    · exact hs.2 k (hO k h hk)
    · have := hs.1.size; omega⟩
/-- The iterator's contract: what it owns is from where it began on. -/
def SeqS {α : Type} (n : Nat) (P : Program) (g : Nat) (lb : Array Value) (B : Nat) (encs : α → Array Value) (S Sp : List α → Prop) (G : List α → α → Prop) (w : World) : Prop :=
  ∀ (l : Nat) (J Jx : (Nat → Prop) → List α → World → Prop) (W : World), Below w.heap.size w W → AbS J → AbS Jx →
    (∀ O pre x W1, J O pre W1 → (∀ k, O k → W.heap.size ≤ k ∧ k < W1.heap.size) → W.heap.size ≤ W1.heap.size → Below B W W1 → G pre x → YieldAt Fence.wide (n - 1) P l (encs x) W1 fun e W' =>
      (e = .returned (.bool true) ∧ J O (pre ++ [x]) W' ∧ Kq O B W1 W') ∨ (e = .returned (.bool false) ∧ Jx O (pre ++ [x]) W' ∧ Kq O B W1 W')) → J (fun _ => False) [] W →
    CallsIn Fence.wide n P g (#[.func (.yield l) #[] #[]] ++ lb) W fun e W' => (∃ v, e = .returned v) ∧ ((∃ xs O, S xs ∧ J O xs W') ∨ (∃ pre O, Sp pre ∧ Jx O pre W'))
/-- The statement. -/
theorem wpIn_rangeS {α : Type} {g : Operand} {ps : Array Tmp} {assign body : Code} {Q : Exit → Act → World → Prop} {a : Act} {w : World}
    (h1 : 1 ≤ n) {gf : Nat} {lb : Array Value} (hg : a.eval g = .func (.func gf) #[] lb) (eg : ∀ args w, (callFunc gf args).run P w = .ok (.enter gf args) w)
    {B : Nat} {encs : α → Array Value} {S Sp : List α → Prop} {G : List α → α → Prop} {w0 : World} (hseq : SeqS (n - 1) P gf lb B encs S Sp G w0) (hb0 : Below w0.heap.size w0 w) (hBw : B ≤ w.heap.size)
    (hps : ∀ x, (encs x).size = ps.size)
    (I : (Nat → Prop) → List α → World → Prop) (Ix : Code → (Nat → Prop) → List α → World → Prop) (hI : ∀ O, OwnFrom w.heap.size (I O)) (hIx : ∀ c O, OwnFrom w.heap.size (Ix c O)) (hIc : AbS I) (hIxc : ∀ c, AbS (Ix c)) (h0 : I (fun _ => False) [] w)
    (Ax : α → Act → World → Prop) (hAx : ∀ x a', OwnFrom w.heap.size (fun (_ : Unit) W => Ax x a' W))
    (hassign : ∀ (l : Nat) (O : Nat → Prop) (pre : List α) (x : α) (W : World) (K : Act → World → Prop), I O pre W → w.heap.size ≤ W.heap.size → (∀ k, O k → w.heap.size ≤ k ∧ k < W.heap.size) → (∀ a' W', KeepsFrom w.heap.size W W' → Kq O B W W' → I O pre W' → Ax x a' W' → K a' W') →
      assign.wpIn (Fence.wide.inRound l) (n - 1 - 1) P (Exit.then K (fun _ _ _ => False)) { tmps := (ps.zip (encs x)).foldl (fun t (p, v) => t.setIfInBounds p v) a.tmps, defers := [] } W)
    (hbody : ∀ (l : Nat) (O : Nat → Prop) (pre : List α) (x : α) (a' : Act) (W : World), w.heap.size ≤ l → I O pre W → w.heap.size ≤ W.heap.size → (∀ k, O k → w.heap.size ≤ k ∧ k < W.heap.size) → Ax x a' W → G pre x → body.wpIn (Fence.wide.inRound l) (n - 1 - 1) P (ownPostG w.heap.size (Kq O B) (I O) (fun c s W' => Ix c O s W' ∧ Kq O B W W') (pre ++ [x]) W) a' W)
    (hdone : ∀ (D : Nat) (O : Nat → Prop) (xs : List α) (W : World), w.heap.size ≤ D → S xs → I O xs W → W.heap[D]? = some (.deferred (some [])) → Q .normal { a with defers := { target := .collected D, args := #[] } :: a.defers } W)
    (hstop : ∀ (D : Nat) (c : Code) (O : Nat → Prop) (pre : List α) (W : World), w.heap.size ≤ D → Sp pre → Ix c O pre W → W.heap[D]? = some (.deferred (some [])) → c.wpIn Fence.wide n P Q { a with defers := { target := .collected D, args := #[] } :: a.defers } W) :
    (Code.rangeFunc g ps assign body).wpIn Fence.wide n P Q a w := by
  refine wpIn_rangeFunc fun fn hfn => ?_
  obtain ⟨R, hR⟩ : ∃ R : LoopState → Option Code → Loop, R = fun st pe => { state := st, pending := pe, fn, tmps := a.tmps, params := ps, assign, body, defers := w.heap.size } := ⟨_, rfl⟩
  obtain ⟨W1, hW1⟩ : ∃ W1, (w.alloc (.deferred (some []))).alloc (.loop (R .ready none)) = W1 := ⟨_, rfl⟩
  have hL1 : Laid w (R .ready none) W1 := by rw [← hW1]; exact Laid.new w _
  have hI1 : I (fun _ => False) [] W1 := by rw [← hW1]; exact (hI _).alloc _ ((hI _).alloc _ h0)
  have hs1 : W1.heap.size = w.heap.size + 2 := by rw [← hW1]; simp
  have hb1 : Below w0.heap.size w0 W1 := by
    rw [← hW1]; exact hb0.trans ((((Below.refl _ w).alloc (Nat.le_refl _) _).alloc (by simp) _).mono hb0.size)
  -- the two blocks lie outside of the iterator's
  obtain ⟨Far, hFar⟩ : ∃ Far : (Nat → Prop) → Prop, Far = fun O => ¬ O w.heap.size ∧ ¬ O (w.heap.size + 1) := ⟨_, rfl⟩
  have far : ∀ {O O' : Nat → Prop} {W W' : World}, Far O → Stp O W W' → w.heap.size + 2 ≤ W.heap.size → (∀ k, k < W.heap.size → O' k → O k) → Far O' := by
    intro O O' W W' h _ hz hO
    rw [hFar] at h ⊢
    exact ⟨fun e => h.1 (hO _ (by omega) e), fun e => h.2 (hO _ (by omega) e)⟩
  have stay : ∀ {r : Loop} {O : Nat → Prop} {W W' : World}, Laid w r W → Far O → Stp O W W' → Laid w r W' := by
    intro r O W W' hl hf hs
    rw [hFar] at hf
    exact ⟨(hs.block _ (Array.getElem?_eq_some_iff.1 hl.1).1 hf.2).trans hl.1, (hs.block _ (Array.getElem?_eq_some_iff.1 hl.2).1 hf.1).trans hl.2⟩
  have two : ∀ {r : Loop} {W : World}, Laid w r W → w.heap.size + 2 ≤ W.heap.size := fun h => by have := (Array.getElem?_eq_some_iff.1 h.1).1; omega
  have put : ∀ {r : Loop} (r' : Loop) {O : Nat → Prop} {W : World}, Far O → Laid w r W → Kq O B W (W.putObj (w.heap.size + 1) (.loop r')) := by
    intro r r' O W hf h
    have hz := two h
    rw [hFar] at hf
    have hg := grownBy_putObj' W (w.heap.size + 1) (.loop r')
    refine ⟨(Below.refl _ _).grown hg (by omega) (fun k e => by cases e; omega), fun k hk => ?_⟩
    exact World.putObj_heap_other (fun e => hf.2 (by rw [← e]; exact hk))
  refine ⟨w.heap.size + 1, [{ target := .collected w.heap.size, args := #[] }], W1, { target := .fn (.func gf) lb, args := #[.func (.yield (w.heap.size + 1)) #[] #[]] }, W1, gf, #[.func (.yield (w.heap.size + 1)) #[] #[]] ++ lb, W1, ?_, ?_, ?_, ?_, fun _ => h1, ?_⟩
  · rw [← hW1, hR]; exact run_enterLoop_outer _ _ _ _ _
  · simp only [resolve, hg]; simp [go_sem]
  · exact fun _ _ => trivial
  · simp [invoke, go_sem, eg]
  refine (hseq (w.heap.size + 1) (fun O pre W => I O pre W ∧ Laid w (R .ready none) W ∧ Far O) (fun O pre W => ∃ c, Ix c O pre W ∧ Laid w (R .done (some c)) W ∧ Far O) W1 hb1
    (fun O O' s X Y hs hc hO => ⟨hIc O O' s X Y hs.1 hc hO, stay hs.2.1 hs.2.2 hc, far hs.2.2 hc (two hs.2.1) hO⟩) (fun O O' s X Y ⟨c, hs, hl, hf⟩ hc hO => ⟨c, hIxc c O O' s X Y hs hc hO, stay hl hf hc, far hf hc (two hl) hO⟩) ?_ ⟨hI1, hL1, by rw [hFar]; exact ⟨id, id⟩⟩).mono ?_
  · rintro O pre x W ⟨hi, hl, hf⟩ hOW hsW _ hlen
    have hy := run_yield (P := P) (args := encs x) hl.1 (by rw [hR]; exact hps x)
    rw [hR] at hy
    have hOw : ∀ k, O k → w.heap.size ≤ k ∧ k < W.heap.size := fun k hk => ⟨by have := (hOW k hk).1; omega, (hOW k hk).2⟩
    refine ⟨fn, _, assign, body, hy, roundIn_of_wpIn hfn (hassign _ O pre x W _ hi (by omega) hOw ?_)⟩
    clear hy
    intro a' X hkX hpX hiX hax
    have hlX := hl.from hkX
    refine ⟨_, run_beginRound hlX.1 (by rw [hR]), ?_⟩
    have hlB := hlX.put { R .ready none with state := .busy }
    have hiB := (hI O).putObj (.loop { R .ready none with state := .busy }) hiX (by omega) hlX.1 rfl
    have haB := (hAx x a').putObj (s := ()) (.loop { R .ready none with state := .busy }) hax (by omega) hlX.1 rfl
    have hpB := Kq.t hpX (put { R .ready none with state := .busy } hf hlX)
    have hszB := hpX.below.size
    refine wpIn_mono (hbody _ O pre x a' _ (by omega) hiB (by simp; omega) (fun k hk => ⟨(hOw k hk).1, by have := (hOw k hk).2; simp; omega⟩) haB hlen) ?_
    have stop : ∀ (c : Code) (W3 : World), KeepsFrom w.heap.size (X.putObj (w.heap.size + 1) (.loop { R .ready none with state := .busy })) W3 → (Ix c O (pre ++ [x]) W3 ∧ Kq O B (X.putObj (w.heap.size + 1) (.loop { R .ready none with state := .busy })) W3) →
        ∃ v w', (Instr.endRound (w.heap.size + 1) (some c)).run P W3 = .ok v w' ∧ (((.returned v : Ending) = .returned (.bool true) ∧ (I O (pre ++ [x]) w' ∧ Laid w (R .ready none) w' ∧ Far O) ∧ Kq O B W w') ∨ ((.returned v : Ending) = .returned (.bool false) ∧ (∃ c, Ix c O (pre ++ [x]) w' ∧ Laid w (R .done (some c)) w' ∧ Far O) ∧ Kq O B W w')) := by
      rintro c W3 hk3 ⟨hi3, hq3⟩
      have hl3 := hlB.from hk3
      have he := run_endRound (P := P) (some c) hl3.1
      refine ⟨_, _, he, .inr ⟨rfl, ⟨c, (hIx c O).putObj _ hi3 (by omega) hl3.1 rfl, ?_, hf⟩, Kq.t (Kq.t hpB hq3) (put _ hf hl3)⟩⟩
      have := hl3.put (R .done (some c))
      rw [hR] at this ⊢
      exact this
    rintro e a3 W3 hp
    cases e with
    | normal =>
      obtain ⟨hk3, hp3, hi3⟩ := hp
      have hl3 := hlB.from hk3
      have he := run_endRound (P := P) none hl3.1
      refine ⟨_, _, he, .inl ⟨rfl, ⟨(hI O).putObj _ hi3 (by omega) hl3.1 rfl, ?_, hf⟩, Kq.t (Kq.t hpB hp3) (put _ hf hl3)⟩⟩
      have := hl3.put (R .ready none)
      rw [hR] at this ⊢
      exact this
    | ret => exact stop .ret W3 hp.1 hp.2
    | exit id => exact stop (.exit id) W3 hp.1 hp.2
    | goto t => exact stop (.goto t) W3 hp.1 hp.2
    | panic ch => exact hp.elim
    | outgrown => exact hp.elim
  · rintro e W2 ⟨⟨v, rfl⟩, (⟨xs, O, hS, hi, hl, _⟩ | ⟨pre, O, hSp, c, hi, hl, _⟩)⟩
    · have he := run_endLoop (P := P) hl.1 (by rw [hR]; simp)
      rw [hR] at he
      exact ⟨none, _, he, hdone _ O xs _ (Nat.le_refl _) hS ((hI O).putObj _ hi (by omega) hl.1 rfl) ((World.putObj_heap_other (by omega)).trans hl.2)⟩
    · have he := run_endLoop (P := P) hl.1 (by rw [hR]; simp)
      rw [hR] at he
      exact ⟨some c, _, he, hstop _ c O pre _ (Nat.le_refl _) hSp ((hIx c O).putObj _ hi (by omega) hl.1 rfl) ((World.putObj_heap_other (by omega)).trans hl.2)⟩
end Go.Proofs.Ytfoangiphbmipaa
/- term.inOrder's iterator: what stands between its rounds; a term pushed. -/
namespace Go.Proofs.Ytfoangiphbmipaa
open Go.RowKit Go.Shelf

theorem teInfo : (Try.prog.info? 29).map (fun i => (i.zero, i.size, i.bytes)) = some (some (.agg #[.int .i64 0, .string ⟨#[]⟩, .int .i64 0, .int .i64 0, .int .i64 0, .slice none 0 0, .slice none 0 0, .int .i64 0, .int .i64 0]), 9, 112) := by kernel_rfl
theorem ndC_len (x : Nd) : (ndC x).length = 9 := rfl
theorem ndC_one (x : Nd) : ∀ u ∈ ndC x, u.oneCell' = true := by
  intro u hu
  simp only [ndC, List.mem_cons, List.not_mem_nil, or_false] at hu
  rcases hu with rfl | rfl | rfl | rfl | rfl | rfl | rfl | rfl | rfl <;> rfl
theorem ndCs_len {α : Type} (L : List α) (f : α → Nd) : (L.flatMap fun x => ndC (f x)).length = L.length * 9 := by
  induction L with
  | nil => rfl
  | cons x L ih => simp only [List.flatMap_cons, List.length_append, ndC_len, ih, List.length_cons]; omega
/-- The stack: the first term lies last. -/
def estk (R : Te) : List Value := R.top.reverse.flatMap fun t => ndC t.1
theorem estk_cons (x : Nd) (ps r : Te) : estk (.cons x ps r) = estk r ++ ndC x := by simp [estk, Te.top]
theorem estk_app (f r : Te) : estk (f.app r) = estk r ++ f.top.reverse.flatMap fun t => ndC t.1 := by simp [estk, Te.top_app]
theorem estk_len (R : Te) : (estk R).length = R.len * 9 := by rw [estk, ndCs_len]; simp [Te.top_len]
/-- A term's nine cells, stored. -/
def set9 (w : World) (g o : Nat) (x : Nd) : World := (((((((((w.setCell ⟨g, o, none⟩ (.int .i64 x.k)).setCell ⟨g, o + 1, none⟩ (.string x.s)).setCell ⟨g, o + 2, none⟩ (.int .i64 x.n)).setCell ⟨g, o + 3, none⟩ (.int .i64 x.tk)).setCell ⟨g, o + 4, none⟩ (.int .i64 x.tn)).setCell ⟨g, o + 5, none⟩ (slv x.tu)).setCell ⟨g, o + 6, none⟩ (slv x.u)).setCell ⟨g, o + 7, none⟩ (.int .i64 x.a)).setCell ⟨g, o + 8, none⟩ (.int .i64 x.b))
theorem set9_own {w1 : World} {base g cp k : Nat} {xs zs : List Value} (x : Nd) (hx : xs.length = k * 9) (hz : zs.length = 9)
    (h : w1.ownsRow base 29 9 (.slice (some ⟨g, 0, none⟩) (k + 1) cp) (k + 1) (xs ++ zs)) :
    (set9 w1 g (k * 9) x).ownsRow base 29 9 (.slice (some ⟨g, 0, none⟩) (k + 1) cp) (k + 1) (xs ++ ndC x) ∧ w1.grownBy (set9 w1 g (k * 9) x) (some g) := by
  obtain ⟨o1, g1⟩ := h.stored (k * 9) (.int .i64 x.k)
  obtain ⟨o2, g2⟩ := o1.stored (k * 9 + 1) (.string x.s)
  obtain ⟨o3, g3⟩ := o2.stored (k * 9 + 2) (.int .i64 x.n)
  obtain ⟨o4, g4⟩ := o3.stored (k * 9 + 3) (.int .i64 x.tk)
  obtain ⟨o5, g5⟩ := o4.stored (k * 9 + 4) (.int .i64 x.tn)
  obtain ⟨o6, g6⟩ := o5.stored (k * 9 + 5) (slv x.tu)
  obtain ⟨o7, g7⟩ := o6.stored (k * 9 + 6) (slv x.u)
  obtain ⟨o8, g8⟩ := o7.stored (k * 9 + 7) (.int .i64 x.a)
  obtain ⟨o9, g9⟩ := o8.stored (k * 9 + 8) (.int .i64 x.b)
  refine ⟨?_, (((((((g1.trans g2).trans g3).trans g4).trans g5).trans g6).trans g7).trans g8).trans g9⟩
  unfold set9
  match zs, hz with
  | [z0, z1, z2, z3, z4, z5, z6, z7, z8], _ =>
    refine (congrArg (World.ownsRow _ base _ 9 _ _) ?_).mp o9
    rw [← hx]
    simp [ndC]
theorem row_not' {w : World} {base : Nat} {e T : TypeId} {size : Nat} {v : Value} {n : Nat} {xs : List Value} (h : w.ownsRow base e size v n xs) (hne : e ≠ T) : ∀ (r : Nat), v.ownBlock = some r → ∀ (cs : Array Value), w.heap[r]? ≠ some (Obj.cells cs T) := by
  intro r hr cs hc
  rcases h.2 with ⟨rfl, _⟩ | ⟨g, cap, cur, rfl, _, hg, _⟩
  · cases hr
  · obtain rfl : g = r := by simpa [Value.ownBlock] using hr
    rw [hg] at hc
    injection hc with hc
    injection hc with _ h2 _
    exact hne h2
/-- What has been pushed so far. -/
def PushI (W5 : World) (base bt : Nat) (v5 : Value) (T : List Value) (m : Nat) (pre : List (Int × Tm)) (W6 : World) : Prop :=
  (∃ vt, Boxed W6 bt 25 vt ∧ W6.ownsRow base 29 9 vt (m + pre.length) (T ++ pre.flatMap fun x => ndC x.2.1) ∧ (∀ g, vt.ownBlock = some g → v5.ownBlock = some g ∨ W5.heap.size ≤ g)) ∧
    Stp (fun k => k = bt ∨ v5.ownBlock = some k) W5 W6
theorem PushI.own {W5 : World} {base bt : Nat} {v5 : Value} {T : List Value} {m : Nat} : OwnFrom W5.heap.size (PushI W5 base bt v5 T m) := by
  refine OwnFrom.and (Own.from (holdsRow_own base bt _ _ 9 (fun pre : List (Int × Tm) => m + pre.length) (fun pre => T ++ pre.flatMap fun x => ndC x.2.1) (fun _ v => ∀ g, v.ownBlock = some g → v5.ownBlock = some g ∨ W5.heap.size ≤ g)) _) ?_
  intro s W W' row hs hg hr
  refine ⟨hg.os.trans hs.os, hg.tape.trans hs.tape, hg.output.trans hs.output, Nat.le_trans hs.size hg.size, fun k hk hne => ?_⟩
  exact (hg.block k (Nat.lt_of_lt_of_le hk hs.size) fun e => by have := (hr k e.symm).1; omega).trans (hs.block k hk hne)
/-- What a round of the pushing does, put together. -/
theorem push_fin {W5 W6 W' : World} {base B bt Bs g cp k m : Nat} {T : List Value} {vL v5 : Value} {Av : Option Addr} {cv : Nat} {pre : List (Int × Tm)} (x : Int × Tm)
    (hk : m + pre.length = k) (hBb : B ≤ base) (hbt : B ≤ bt) (hbt5 : bt < W5.heap.size) (hBsb : Bs ≠ bt) (hbs : Boxed W5 Bs 25 vL) (hv5 : v5.ownBlock ≠ some Bs)
    (hbox : Boxed W6 bt 25 (.slice Av k cv)) (hown : W6.ownsRow base 29 9 (.slice Av k cv) k (T ++ pre.flatMap fun x => ndC x.2.1)) (hrow : ∀ g, (Value.slice Av k cv).ownBlock = some g → v5.ownBlock = some g ∨ W5.heap.size ≤ g)
    (hst : Stp (fun k => k = bt ∨ v5.ownBlock = some k) W5 W6)
    (hat : (Value.slice (some ⟨g, 0, none⟩) (k + 1) cp).ownBlock = (Value.slice Av k cv).ownBlock ∨ W6.heap.size ≤ g)
    (hown' : W'.ownsRow base 29 9 (.slice (some ⟨g, 0, none⟩) (k + 1) cp) (k + 1) ((T ++ pre.flatMap fun x => ndC x.2.1) ++ ndC x.2.1)) (hbox' : Boxed W' bt 25 (.slice (some ⟨g, 0, none⟩) (k + 1) cp))
    (hos : W'.os = W6.os) (htp : W'.tape = W6.tape) (hout : W'.output = W6.output) (hsz : W6.heap.size ≤ W'.heap.size)
    (hWW : ∀ j, j < W6.heap.size → some j ≠ (Value.slice Av k cv).ownBlock → j ≠ bt → W'.heap[j]? = W6.heap[j]?) :
    KeepsFrom W5.heap.size W6 W' ∧ KpB B Bs W6 W' ∧ PushI W5 base bt v5 T m (pre ++ [x]) W' := by
  have h56 := hst.size
  have hrb : ∀ j, (Value.slice Av k cv).ownBlock = some j → base ≤ j := fun j h => (hown.lt j h).1
  have hBs6 : Boxed W6 Bs 25 vL := (hst.block Bs hbs.lt (by rintro (h | h); exact hBsb h; exact hv5 h)).trans hbs
  refine ⟨⟨hsz, fun j o hj ho hc => ?_⟩, ⟨⟨hos, htp, hout, hsz, fun j hj => ?_⟩, fun o ho hc => ?_⟩, ⟨.slice (some ⟨g, 0, none⟩) (k + 1) cp, hbox', ?_, ?_⟩, ⟨hos.trans hst.os, htp.trans hst.tape, hout.trans hst.output, Nat.le_trans h56 hsz, fun j hj hne => ?_⟩⟩
  · refine (hWW j (Array.getElem?_eq_some_iff.1 ho).1 (fun e => ?_) (fun e => ?_)).trans ho
    · rcases hown.2 with ⟨h1, _⟩ | ⟨g', cap, cur, h1, _, h2, _⟩
      · rw [h1] at e; cases e
      · rw [h1] at e
        obtain rfl : j = g' := by simpa [Value.ownBlock] using e
        rw [h2] at ho; cases ho; cases hc
    · subst e
      rw [show W6.heap[j]? = _ from hbox] at ho; cases ho; cases hc
  · refine hWW j (by omega) (fun e => ?_) (by omega)
    have := hrb j e.symm
    omega
  · refine (hWW Bs hBs6.lt (fun e => ?_) hBsb).trans ho
    exact row_not' hown (by decide) Bs e.symm _ hBs6
  · have e : m + (pre ++ [x]).length = k + 1 := by simp; omega
    have e2 : (T ++ (pre ++ [x]).flatMap fun x => ndC x.2.1) = (T ++ pre.flatMap fun x => ndC x.2.1) ++ ndC x.2.1 := by simp
    rw [e, e2]; exact hown'
  · intro j hj
    rcases hat with h | h
    · exact hrow j (h ▸ hj)
    · obtain rfl : g = j := by simpa [Value.ownBlock] using hj
      exact .inr (by omega)
  · refine (hWW j (by omega) (fun e => ?_) (fun e => hne (.inl e))).trans (hst.block j hj hne)
    rcases hrow j e.symm with h | h
    · exact hne (.inr h)
    · omega
end Go.Proofs.Ytfoangiphbmipaa
