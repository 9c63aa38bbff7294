/- Texts of one proof, one behind the other. -/
import Derived.Test.YtfoangiphbmipaaMgTermOrder25
/- A range over a function whose iterator has blocks of its own, the visitor keeping a set of blocks alone: the contract, and the statement. Nothing here speaks of the program. -/
namespace Go.Proofs.Ytfoangiphbmipaa
open Go.RowKit
variable {n : Nat} {P : Program}

/-- A step that keeps a set of blocks. -/
structure Kk (K : Nat → Prop) (W W' : World) : Prop where
  os : W'.os = W.os
  tape : W'.tape = W.tape
  output : W'.output = W.output
  size : W.heap.size ≤ W'.heap.size
  keep : ∀ k, K k → W'.heap[k]? = W.heap[k]?
theorem Kk.refl (K : Nat → Prop) (W : World) : Kk K W W := ⟨rfl, rfl, rfl, Nat.le_refl _, fun _ _ => rfl⟩
theorem Kk.trans {K : Nat → Prop} {A B C : World} (h : Kk K A B) (k : Kk K B C) : Kk K A C := ⟨k.os.trans h.os, k.tape.trans h.tape, k.output.trans h.output, Nat.le_trans h.size k.size, fun i hi => (k.keep i hi).trans (h.keep i hi)⟩
theorem Kk.of_below {K : Nat → Prop} {C : Nat} {W W' : World} (h : Below C W W') (hK : ∀ k, K k → k < C) : Kk K W W' := ⟨h.os, h.tape, h.output, h.size, fun k hk => h.block k (hK k hk)⟩
theorem Kk.mono {K K' : Nat → Prop} {W W' : World} (h : Kk K W W') (hK : ∀ k, K' k → K k) : Kk K' W W' := ⟨h.os, h.tape, h.output, h.size, fun k hk => h.keep k (hK k hk)⟩
/-- What a visitor keeps. -/
structure Kx (O K : Nat → Prop) (W W' : World) : Prop where
  kk : Kk K W W'
  own : ∀ k, O k → W'.heap[k]? = W.heap[k]?
theorem Kx.t {O K : Nat → Prop} {X Y Z : World} (h : Kx O K X Y) (k : Kx O K Y Z) : Kx O K X Z := ⟨h.kk.trans k.kk, fun i hi => (k.own i hi).trans (h.own i hi)⟩
theorem Kx.refl (O K : Nat → Prop) (W : World) : Kx O K W W := ⟨Kk.refl _ _, fun _ _ => rfl⟩
theorem Kx.of_below {O K : Nat → Prop} {W W' : World} (h : Below W.heap.size W W') (hK : ∀ k, K k → k < W.heap.size) (hO : ∀ k, O k → k < W.heap.size) : Kx O K W W' := ⟨Kk.of_below h hK, fun k hk => h.block k (hO k hk)⟩
theorem Kx.grown {O K : Nat → Prop} {W W' : World} {row : Option Nat} (h : W.grownBy W' row) (hK : ∀ k, K k → k < W.heap.size) (hO : ∀ k, O k → k < W.heap.size) (hr : ∀ r, row = some r → ¬ K r ∧ ¬ O r) : Kx O K W W' :=
  ⟨⟨h.os, h.tape, h.output, h.size, fun k hk => h.block k (hK k hk) fun e => (hr k e.symm).1 hk⟩, fun k hk => h.block k (hO k hk) fun e => (hr k e.symm).2 hk⟩
/-- The iterator's contract: what it owns is from where it began on. -/
def SeqX {α : Type} (n : Nat) (P : Program) (g : Nat) (lb : Array Value) (K : Nat → Prop) (encs : α → Array Value) (S Sp : List α → Prop) (G : (World → Prop) → (Nat → Prop) → World → List α → α → Prop) (w : World) : Prop :=
  ∀ (l : Nat) (J Jx : (Nat → Prop) → List α → World → Prop) (W : World), Below w.heap.size w W → w.heap.size + 2 ≤ W.heap.size → AbS J → AbS Jx →
    (∀ O pre x W1, J O pre W1 → (∀ k, O k → W.heap.size ≤ k ∧ k < W1.heap.size) → W.heap.size ≤ W1.heap.size → Kk K W W1 → G (J O pre) O W1 pre x → YieldAt Fence.wide (n - 1) P l (encs x) W1 fun e W' =>
      (e = .returned (.bool true) ∧ J O (pre ++ [x]) W' ∧ Kx O K W1 W') ∨ (e = .returned (.bool false) ∧ Jx O (pre ++ [x]) W' ∧ Kx O K W1 W')) → J (fun _ => False) [] W →
    CallsIn Fence.wide n P g (#[.func (.yield l) #[] #[]] ++ lb) W fun e W' => (∃ v, e = .returned v) ∧ ((∃ xs O, S xs ∧ J O xs W') ∨ (∃ pre O, Sp pre ∧ Jx O pre W'))
/-- The range's own two blocks stay. -/
def Rec (base : Nat) (W W' : World) : Prop := ∀ k, k = base ∨ k = base + 1 → W'.heap[k]? = W.heap[k]?
theorem Rec.of_below {base : Nat} {W W' : World} (h : Below W.heap.size W W') (hs : base + 2 ≤ W.heap.size) : Rec base W W' := fun k hk => h.block k (by omega)
theorem Laid.rec {w : World} {r : Loop} {W W' : World} (h : Laid w r W) (hk : Rec w.heap.size W W') : Laid w r W' := ⟨(hk _ (.inr rfl)).trans h.1, (hk _ (.inl rfl)).trans h.2⟩
/-- What a round owes. -/
def postX {α : Type} (B : Nat) (Kp : World → World → Prop) (I : List α → World → Prop) (Ix : Code → List α → World → Prop) (xs : List α) (W : World) : Exit → Act → World → Prop
  | .normal, _, W' => Rec B W W' ∧ Kp W W' ∧ I xs W'
  | .ret, _, W' => Rec B W W' ∧ Ix .ret xs W'
  | .exit id, _, W' => Rec B W W' ∧ Ix (.exit id) xs W'
  | .goto t, _, W' => Rec B W W' ∧ Ix (.goto t) xs W'
  | .panic _, _, _ => False
  | .outgrown, _, _ => False
/-- The statement. -/
theorem wpIn_rangeX {α : Type} {g : Operand} {ps : Array Tmp} {assign body : Code} {Q : Exit → Act → World → Prop} {a : Act} {w : World}
    (h1 : 1 ≤ n) {gf : Nat} {lb : Array Value} (hg : a.eval g = .func (.func gf) #[] lb) (eg : ∀ args w, (callFunc gf args).run P w = .ok (.enter gf args) w)
    {Kp : Nat → Prop} {encs : α → Array Value} {S Sp : List α → Prop} {G : (World → Prop) → (Nat → Prop) → World → List α → α → Prop} {w0 : World} (hseq : SeqX (n - 1) P gf lb Kp encs S Sp G w0) (hb0 : Below w0.heap.size w0 w) (hKw : ∀ k, Kp k → k < w.heap.size)
    (hps : ∀ x, (encs x).size = ps.size)
    (I : (Nat → Prop) → List α → World → Prop) (Ix : Code → (Nat → Prop) → List α → World → Prop) (hI : ∀ O s W W', I O s W → Stp (fun k => k = w.heap.size ∨ k = w.heap.size + 1) W W' → I O s W') (hIx : ∀ c O s W W', Ix c O s W → Stp (fun k => k = w.heap.size ∨ k = w.heap.size + 1) W W' → Ix c O s W') (hIc : AbS I) (hIxc : ∀ c, AbS (Ix c)) (h0 : I (fun _ => False) [] w)
    (Ax : (Nat → Prop) → List α → α → Act → World → Prop) (hAx : ∀ O pre x a', OwnFrom w.heap.size (fun (_ : Unit) W => Ax O pre x a' W))
    (hassign : ∀ (l : Nat) (O : Nat → Prop) (pre : List α) (x : α) (W : World) (K : Act → World → Prop), I O pre W → (∃ Jh : World → Prop, (∀ W2, Jh W2 → I O pre W2) ∧ G Jh O W pre x) → w.heap.size + 2 ≤ W.heap.size → (∀ k, O k → w.heap.size ≤ k ∧ k < W.heap.size) → (∀ a' W', Rec w.heap.size W W' → Kx O Kp W W' → I O pre W' → Ax O pre x a' W' → K a' W') →
      assign.wpIn (Fence.wide.inRound l) (n - 1 - 1) P (Exit.then K (fun _ _ _ => False)) { tmps := (ps.zip (encs x)).foldl (fun t (p, v) => t.setIfInBounds p v) a.tmps, defers := [] } W)
    (hbody : ∀ (l : Nat) (O : Nat → Prop) (pre : List α) (x : α) (a' : Act) (W : World), w.heap.size ≤ l → I O pre W → w.heap.size + 2 ≤ W.heap.size → (∀ k, O k → w.heap.size ≤ k ∧ k < W.heap.size) → Ax O pre x a' W → body.wpIn (Fence.wide.inRound l) (n - 1 - 1) P (postX w.heap.size (Kx O Kp) (I O) (fun c s W' => Ix c O s W' ∧ Kx O Kp W W') (pre ++ [x]) W) a' W)
    (hdone : ∀ (D : Nat) (O : Nat → Prop) (xs : List α) (W : World), w.heap.size ≤ D → S xs → I O xs W → D = w.heap.size → W.heap[D]? = some (.deferred (some [])) → Q .normal { a with defers := { target := .collected D, args := #[] } :: a.defers } W)
    (hstop : ∀ (D : Nat) (c : Code) (O : Nat → Prop) (pre : List α) (W : World), w.heap.size ≤ D → Sp pre → Ix c O pre W → D = w.heap.size → W.heap[D]? = some (.deferred (some [])) → c.wpIn Fence.wide n P Q { a with defers := { target := .collected D, args := #[] } :: a.defers } W) :
    (Code.rangeFunc g ps assign body).wpIn Fence.wide n P Q a w := by
  refine wpIn_rangeFunc fun fn hfn => ?_
  obtain ⟨R, hR⟩ : ∃ R : LoopState → Option Code → Loop, R = fun st pe => { state := st, pending := pe, fn, tmps := a.tmps, params := ps, assign, body, defers := w.heap.size } := ⟨_, rfl⟩
  obtain ⟨W1, hW1⟩ : ∃ W1, (w.alloc (.deferred (some []))).alloc (.loop (R .ready none)) = W1 := ⟨_, rfl⟩
  have hL1 : Laid w (R .ready none) W1 := by rw [← hW1]; exact Laid.new w _
  have hI1 : I (fun _ => False) [] W1 := hI _ _ _ _ h0 (by rw [← hW1]; exact Stp.of_below (((Below.refl _ w).alloc (Nat.le_refl _) _).alloc (by simp) _))
  have stL : ∀ (W : World) (o : Obj), Stp (fun k => k = w.heap.size ∨ k = w.heap.size + 1) W (W.putObj (w.heap.size + 1) o) := fun W o => Stp.grown (grownBy_putObj' W _ o) fun r e => by cases e; exact .inl (.inr rfl)
  have hs1 : W1.heap.size = w.heap.size + 2 := by rw [← hW1]; simp
  have hb1 : Below w0.heap.size w0 W1 := by
    rw [← hW1]; exact hb0.trans ((((Below.refl _ w).alloc (Nat.le_refl _) _).alloc (by simp) _).mono hb0.size)
  -- the two blocks lie outside of the iterator's
  obtain ⟨Far, hFar⟩ : ∃ Far : (Nat → Prop) → Prop, Far = fun O => ¬ O w.heap.size ∧ ¬ O (w.heap.size + 1) := ⟨_, rfl⟩
  have far : ∀ {O O' : Nat → Prop} {W W' : World}, Far O → Stp O W W' → w.heap.size + 2 ≤ W.heap.size → (∀ k, k < W.heap.size → O' k → O k) → Far O' := by
    intro O O' W W' h _ hz hO
    rw [hFar] at h ⊢
    exact ⟨fun e => h.1 (hO _ (by omega) e), fun e => h.2 (hO _ (by omega) e)⟩
  have stay : ∀ {r : Loop} {O : Nat → Prop} {W W' : World}, Laid w r W → Far O → Stp O W W' → Laid w r W' := by
    intro r O W W' hl hf hs
    rw [hFar] at hf
    exact ⟨(hs.block _ (Array.getElem?_eq_some_iff.1 hl.1).1 hf.2).trans hl.1, (hs.block _ (Array.getElem?_eq_some_iff.1 hl.2).1 hf.1).trans hl.2⟩
  have two : ∀ {r : Loop} {W : World}, Laid w r W → w.heap.size + 2 ≤ W.heap.size := fun h => by have := (Array.getElem?_eq_some_iff.1 h.1).1; omega
  have put : ∀ {r : Loop} (r' : Loop) {O : Nat → Prop} {W : World}, Far O → Laid w r W → Kx O Kp W (W.putObj (w.heap.size + 1) (.loop r')) := by
    intro r r' O W hf h
    have hg := grownBy_putObj' W (w.heap.size + 1) (.loop r')
    rw [hFar] at hf
    refine ⟨⟨hg.os, hg.tape, hg.output, hg.size, fun k hk => ?_⟩, fun k hk => ?_⟩
    · exact World.putObj_heap_other (by have := hKw k hk; omega)
    · exact World.putObj_heap_other (fun e => hf.2 (by rw [← e]; exact hk))
  refine ⟨w.heap.size + 1, [{ target := .collected w.heap.size, args := #[] }], W1, { target := .fn (.func gf) lb, args := #[.func (.yield (w.heap.size + 1)) #[] #[]] }, W1, gf, #[.func (.yield (w.heap.size + 1)) #[] #[]] ++ lb, W1, ?_, ?_, ?_, ?_, fun _ => h1, ?_⟩
  · rw [← hW1, hR]; exact run_enterLoop_outer _ _ _ _ _
  · simp only [resolve, hg]; simp [go_sem]
  · exact fun _ _ => trivial
  · simp [invoke, go_sem, eg]
  refine (hseq (w.heap.size + 1) (fun O pre W => I O pre W ∧ Laid w (R .ready none) W ∧ Far O) (fun O pre W => ∃ c, Ix c O pre W ∧ Laid w (R .done (some c)) W ∧ Far O) W1 hb1 (by have := hb0.size; omega)
    (fun O O' s X Y hs hc hO => ⟨hIc O O' s X Y hs.1 hc hO, stay hs.2.1 hs.2.2 hc, far hs.2.2 hc (two hs.2.1) hO⟩) (fun O O' s X Y ⟨c, hs, hl, hf⟩ hc hO => ⟨c, hIxc c O O' s X Y hs hc hO, stay hl hf hc, far hf hc (two hl) hO⟩) ?_ ⟨hI1, hL1, by rw [hFar]; exact ⟨id, id⟩⟩).mono ?_
  · rintro O pre x W ⟨hi, hl, hf⟩ hOW hsW _ hlen
    have hy := run_yield (P := P) (args := encs x) hl.1 (by rw [hR]; exact hps x)
    rw [hR] at hy
    have hOw : ∀ k, O k → w.heap.size ≤ k ∧ k < W.heap.size := fun k hk => ⟨by have := (hOW k hk).1; omega, (hOW k hk).2⟩
    refine ⟨fn, _, assign, body, hy, roundIn_of_wpIn hfn (hassign _ O pre x W _ hi ⟨_, fun _ h => h.1, hlen⟩ (by have := two hl; omega) hOw ?_)⟩
    clear hy
    intro a' X hkX hpX hiX hax
    have hlX := hl.rec hkX
    refine ⟨_, run_beginRound hlX.1 (by rw [hR]), ?_⟩
    have hlB := hlX.put { R .ready none with state := .busy }
    have hiB := hI O _ _ _ hiX (stL X (.loop { R .ready none with state := .busy }))
    have haB := (hAx O pre x a').putObj (s := ()) (.loop { R .ready none with state := .busy }) hax (by omega) hlX.1 rfl
    have hpB := Kx.t hpX (put { R .ready none with state := .busy } hf hlX)
    have hszB := hpX.kk.size
    refine wpIn_mono (hbody _ O pre x a' _ (by omega) hiB (by have := two hlX; simp; omega) (fun k hk => ⟨(hOw k hk).1, by have := (hOw k hk).2; simp; omega⟩) haB) ?_
    have stop : ∀ (c : Code) (W3 : World), Rec w.heap.size (X.putObj (w.heap.size + 1) (.loop { R .ready none with state := .busy })) W3 → (Ix c O (pre ++ [x]) W3 ∧ Kx O Kp (X.putObj (w.heap.size + 1) (.loop { R .ready none with state := .busy })) W3) →
        ∃ v w', (Instr.endRound (w.heap.size + 1) (some c)).run P W3 = .ok v w' ∧ (((.returned v : Ending) = .returned (.bool true) ∧ (I O (pre ++ [x]) w' ∧ Laid w (R .ready none) w' ∧ Far O) ∧ Kx O Kp W w') ∨ ((.returned v : Ending) = .returned (.bool false) ∧ (∃ c, Ix c O (pre ++ [x]) w' ∧ Laid w (R .done (some c)) w' ∧ Far O) ∧ Kx O Kp W w')) := by
      rintro c W3 hk3 ⟨hi3, hq3⟩
      have hl3 := hlB.rec hk3
      have he := run_endRound (P := P) (some c) hl3.1
      refine ⟨_, _, he, .inr ⟨rfl, ⟨c, hIx c O _ _ _ hi3 (stL W3 _), ?_, hf⟩, Kx.t (Kx.t hpB hq3) (put _ hf hl3)⟩⟩
      have := hl3.put (R .done (some c))
      rw [hR] at this ⊢
      exact this
    rintro e a3 W3 hp
    cases e with
    | normal =>
      obtain ⟨hk3, hp3, hi3⟩ := hp
      have hl3 := hlB.rec hk3
      have he := run_endRound (P := P) none hl3.1
      refine ⟨_, _, he, .inl ⟨rfl, ⟨hI O _ _ _ hi3 (stL W3 _), ?_, hf⟩, Kx.t (Kx.t hpB hp3) (put _ hf hl3)⟩⟩
      have := hl3.put (R .ready none)
      rw [hR] at this ⊢
      exact this
    | ret => exact stop .ret W3 hp.1 hp.2
    | exit id => exact stop (.exit id) W3 hp.1 hp.2
    | goto t => exact stop (.goto t) W3 hp.1 hp.2
    | panic ch => exact hp.elim
    | outgrown => exact hp.elim
  · rintro e W2 ⟨⟨v, rfl⟩, (⟨xs, O, hS, hi, hl, _⟩ | ⟨pre, O, hSp, c, hi, hl, _⟩)⟩
    · have he := run_endLoop (P := P) hl.1 (by rw [hR]; simp)
      rw [hR] at he
      exact ⟨none, _, he, hdone _ O xs _ (Nat.le_refl _) hS (hI O _ _ _ hi (stL W2 _)) rfl ((World.putObj_heap_other (by omega)).trans hl.2)⟩
    · have he := run_endLoop (P := P) hl.1 (by rw [hR]; simp)
      rw [hR] at he
      exact ⟨some c, _, he, hstop _ c O pre _ (Nat.le_refl _) hSp (hIx c O _ _ _ hi (stL W2 _)) rfl ((World.putObj_heap_other (by omega)).trans hl.2)⟩
end Go.Proofs.Ytfoangiphbmipaa
