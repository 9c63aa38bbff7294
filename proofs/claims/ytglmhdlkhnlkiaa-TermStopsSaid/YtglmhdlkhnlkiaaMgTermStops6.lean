/- Texts of one proof, one behind the other. -/
import Derived.Test.YtglmhdlkhnlkiaaMgTermStops2
import Derived.Test.YtglmhdlkhnlkiaaMgTermStops5
import Derived.Test.YtglmhdlkhnlkiaaMgTermStops3
/- slices.Backward at terms. -/
namespace Go.Proofs.Ytglmhdlkhnlkiaa
open Go.RowKit Go.Shelf
attribute [local go_sem] Oper.semAt_some

/-- A slice value that reads as these terms' cells, below block B. -/
def RdE (B : Nat) (w : World) (v : Value) (L : List Tm) : Prop :=
  ∃ A c, v = .slice A L.length c ∧ (0 < L.length → ∃ b off, A = some ⟨b, off, none⟩ ∧ b < B ∧ ∀ i (h : i < L.length), NdAt w b (off + i * 9) L[i].1)
theorem RdE.below {B : Nat} {w w' : World} {v : Value} {L : List Tm} (h : RdE B w v L) (hb : Below B w w') : RdE B w' v L := by
  obtain ⟨A, c, hv, h⟩ := h
  refine ⟨A, c, hv, fun hn => ?_⟩
  obtain ⟨b, off, hA, hlt, hc⟩ := h hn
  exact ⟨b, off, hA, hlt, fun i hi => (hc i hi).below hb hlt⟩
theorem RdE.mono {B C : Nat} {w : World} {v : Value} {L : List Tm} (h : RdE B w v L) (hC : B ≤ C) : RdE C w v L := by
  obtain ⟨A, c, hv, h⟩ := h
  refine ⟨A, c, hv, fun hn => ?_⟩
  obtain ⟨b, off, hA, hlt, hc⟩ := h hn
  exact ⟨b, off, hA, by omega, hc⟩
theorem teC_rd {B : Nat} {w : World} {f : Te} {b off : Nat} (h : TeC B w f b off) : ∀ i (hi : i < f.top.length), NdAt w b (off + i * 9) f.top[i].1 := by
  induction f generalizing off with
  | nil => intro i hi; simp [Te.top] at hi
  | cons x ps r _ ih =>
    obtain ⟨h1, _, _, h5⟩ := teC_cons.1 h
    intro i hi
    cases i with
    | zero => simpa [Te.top] using h1
    | succ i =>
      have := ih h5 i (by simpa [Te.top] using hi)
      rw [show off + (i + 1) * 9 = off + 9 + i * 9 by omega]
      simpa [Te.top] using this
theorem TeV.rd {B : Nat} {w : World} {f : Te} {v : Value} (h : TeV B w f v) : RdE B w v f.top := by
  cases f with
  | nil =>
    obtain ⟨A, c, rfl⟩ := teV_nil.1 h
    exact ⟨A, c, rfl, fun h => by simp [Te.top] at h⟩
  | cons x ps r =>
    obtain ⟨b, off, cap, rfl, _, _, hb, hc⟩ := teV_cons.1 h
    exact ⟨_, cap, by rw [Te.top_len]; rfl, fun _ => ⟨b, off, rfl, hb, teC_rd hc⟩⟩
set_option maxRecDepth 100000 in
set_option maxHeartbeats 2000000 in
/-- slices.Backward's closure: the last first, each with its place. -/
theorem eback1 (n : Nat) (hn : 1 ≤ n) (l Bs B : Nat) (A : Option Addr) (c : Nat) (L : List Tm) (hL : L.length ≤ 1000000) (J Jx : List (Int × Tm) → World → Prop)
    (hY : ∀ pre x W, J pre W → pre.length < L.length → YieldAt Fence.wide (n - 1) Try.prog l #[.int .i64 x.1, teVal x.2.1] W fun e W' =>
      (e = .returned (.bool true) ∧ J (pre ++ [x]) W' ∧ KpB B Bs W W') ∨ (e = .returned (.bool false) ∧ Jx (pre ++ [x]) W'))
    (W : World) (hBs : Boxed W Bs 25 (.slice A L.length c)) (hR : RdE B W (.slice A L.length c) L) (h0 : J [] W) :
    CallsIn Fence.wide n Try.prog 55 #[.func (.yield l) #[] #[], .pointer (some ⟨Bs, 0, none⟩)] W fun e W' => (∃ v, e = .returned v) ∧
      ((∃ ys : List (Int × Tm), ys.map (·.2) = L.reverse ∧ J ys W') ∨ (∃ pre, Jx pre W')) := by
  refine callsIn_of_wp Try.func55 rfl trivial ?_ rfl
  simp only [Try.ntmps55, List.size_toArray, List.length_cons, List.length_nil, Nat.reduceAdd, Nat.reduceSub, Array.replicate_succ, Array.replicate_zero, List.push_toArray, List.append_toArray, List.nil_append, List.cons_append]
  have e00 : W.cell? ⟨Bs, 0, none⟩ = some (.slice A L.length c) := hBs.cell
  have HBS := Lib.hid hBs
  clear hBs
  gi_wp2
  gi_loopw [3] (fun i wr => ∃ (k : Nat) (z : Int) (pre : List (Int × Tm)), k ≤ L.length ∧ i = .int .i64 z ∧ z + 1 = k ∧ pre.map (·.2) = (L.drop k).reverse ∧ J pre wr ∧ Below B W wr ∧ Boxed wr Bs 25 (.slice A L.length c))
    (fun i _ => (intOf i + 1).toNat)
  case atStart => exact ⟨L.length, _, [], Nat.le_refl _, rfl, by omega, by simp, h0, Below.refl _ _, HBS.out⟩
  case round =>
    obtain ⟨k, z, pre, hk, rfl, hz, hpre, hJs, hnx, hbx⟩ := hrel
    have e0 : wr.cell? ⟨Bs, 0, none⟩ = some (.slice A L.length c) := hbx.cell
    have HBX := Lib.hid hbx
    clear hbx
    by_cases hk0 : 1 ≤ k
    · obtain ⟨A', c', hv, hf⟩ := hR.below hnx
      injection hv with hv1 _ hv3
      subst hv1; subst hv3
      obtain ⟨b, off, rfl, hlt, hc⟩ := hf (by omega)
      obtain ⟨c0, c1, c2, c3, c4, c5, c6, c7, c8⟩ := hc (k - 1) (by omega)
      have hdrop : L.drop (k - 1) = L[k - 1] :: L.drop k := by
        have := List.drop_eq_getElem_cons (l := L) (i := k - 1) (by omega)
        rwa [show k - 1 + 1 = k by omega] at this
      have hpl : pre.length < L.length := by
        have : (pre.map (·.2)).length = pre.length := by simp
        rw [hpre] at this
        simp at this
        omega
      obtain ⟨x, hx⟩ : ∃ x, L[k - 1] = x := ⟨_, rfl⟩
      rw [hx] at c0 c1 c2 c3 c4 c5 c6 c7 c8 hdrop
      obtain ⟨⟨x0, x1, x2, x3, x4, x5, x6, x7, x8, x9⟩, x10⟩ := x
      dsimp only [slv] at c0 c1 c2 c3 c4 c5 c6 c7 c8
      obtain ⟨fn, tmps, assign, body, hy, hR2⟩ := hY pre (z, ⟨x0, x1, x2, x3, x4, x5, x6, x7, x8, x9⟩, x10) wr hJs hpl
      dsimp only [teVal, slv] at hy
      have f1 : (0 : Int) ≤ z := by omega
      have f2 : z < (L.length : Int) := by omega
      have f3 : z.toNat = k - 1 := by omega
      have f4 : decide ((0 : Int) ≤ z) = true := decide_eq_true f1
      have HZ := Lib.hid hz
      have HP := Lib.hid hpre
      have HD := Lib.hid hdrop
      clear hz hpre hdrop hx hc hf hpl
      gi_wp2
      refine hR2.mono ?_
      rintro e W3 (⟨rfl, hJ3, hk3⟩ | ⟨rfl, hJx3⟩)
      · gi_wp2
        go_roundw
        case rel => exact ⟨k - 1, z - 1, pre ++ [(z, ⟨x0, x1, x2, x3, x4, x5, x6, x7, x8, x9⟩, x10)], by omega, by go_num, by have := HZ.out; omega, by simp [HP.out, HD.out], hJ3, hnx.trans hk3.below, hk3.boxed HBX.out⟩
        case measure => simp [intOf]; omega
      · gi_wp2
        refine bodyPost_ret (results_none rfl _ _ _) rfl ?_
        exact ⟨⟨_, rfl⟩, .inr ⟨_, hJx3⟩⟩
    · obtain rfl : k = 0 := by omega
      have f1 : ¬ (0 : Int) ≤ z := by omega
      have f4 : decide ((0 : Int) ≤ z) = false := decide_eq_false f1
      have HP := Lib.hid hpre
      clear hz hpre
      gi_wp2
      go_end0
      exact ⟨⟨_, rfl⟩, .inl ⟨pre, by simpa using HP.out, hJs⟩⟩
set_option maxHeartbeats 1000000 in
/-- slices.Backward at types: the slice is boxed, the function that comes has the box. -/
theorem eback_make (A : Option Addr) (n c : Nat) (w : World) :
    Calls Try.prog 40 #[.slice A n c] w fun e w' => e = .returned (.func (.func 55) #[] #[.pointer (some ⟨w.heap.size, 0, none⟩)]) ∧ w' = w.alloc (.cells #[.slice A n c] 25) := by
  go_enter Try.func40, Try.ntmps40
  go_wp2
  go_ret
  exact ⟨rfl, rfl⟩
theorem eback_stops (n : Nat) (hn : 1 ≤ n) (Bs B : Nat) (A : Option Addr) (c : Nat) (L : List Tm) (hL : L.length ≤ 1000000) (w : World) (hBw : B ≤ w.heap.size) (hBs : Boxed w Bs 25 (.slice A L.length c)) (hR : RdE B w (.slice A L.length c) L) :
    SeqStopsK Fence.wide n Try.prog 55 #[.pointer (some ⟨Bs, 0, none⟩)] (fun x : Int × Tm => #[Value.int .i64 x.1, teVal x.2.1]) (KpB B Bs) (fun ys => ys.map (·.2) = L.reverse) (fun _ => True) L.length w := fun l J Jx W hW _ _ hY h0 => by
  have hbs : Boxed W Bs 25 (.slice A L.length c) := (hW.block Bs hBs.lt).trans hBs
  refine (eback1 n hn l Bs B A c L hL J Jx hY W hbs (hR.below (hW.mono hBw)) h0).mono ?_
  rintro e W' ⟨he, ⟨ys, hy, hj⟩ | ⟨pre, hj⟩⟩
  · exact ⟨he, .inl ⟨ys, hy, hj⟩⟩
  · exact ⟨he, .inr ⟨pre, trivial, hj⟩⟩
end Go.Proofs.Ytglmhdlkhnlkiaa
/- A range over a function of which it is known what may come next. Nothing here speaks of the program. -/
namespace Go.Proofs.Ytglmhdlkhnlkiaa
open Go.RowKit
variable {n : Nat} {P : Program}

/-- The iterator's contract. -/
def SeqG {α : Type} (n : Nat) (P : Program) (g : Nat) (lb : Array Value) (t : TypeId) (encs : α → Array Value) (Kp : World → World → Prop) (S Sp : List α → Prop) (G : List α → α → Prop) (w : World) : Prop :=
  ∀ (l : Nat) (J Jx : List α → World → Prop) (W : World), Below w.heap.size w W → AbC W.heap.size t J → AbC W.heap.size t Jx →
    (∀ pre x W1, J pre W1 → G pre x → YieldAt Fence.wide (n - 1) P l (encs x) W1 fun e W' =>
      (e = .returned (.bool true) ∧ J (pre ++ [x]) W' ∧ Kp W1 W') ∨ (e = .returned (.bool false) ∧ Jx (pre ++ [x]) W')) → J [] W →
    CallsIn Fence.wide n P g (#[.func (.yield l) #[] #[]] ++ lb) W fun e W' => (∃ v, e = .returned v) ∧ ((∃ xs, S xs ∧ J xs W') ∨ (∃ pre, Sp pre ∧ Jx pre W'))
/-- The statement. -/
theorem wpIn_rangeG {α : Type} {g : Operand} {ps : Array Tmp} {assign body : Code} {Q : Exit → Act → World → Prop} {a : Act} {w : World}
    (h1 : 1 ≤ n) {gf : Nat} {lb : Array Value} (hg : a.eval g = .func (.func gf) #[] lb) (eg : ∀ args w, (callFunc gf args).run P w = .ok (.enter gf args) w)
    {t : TypeId} {encs : α → Array Value} {Kp : World → World → Prop} {S Sp : List α → Prop} {G : List α → α → Prop} {w0 : World} (hseq : SeqG (n - 1) P gf lb t encs Kp S Sp G w0) (hb0 : Below w0.heap.size w0 w)
    (hKt : ∀ {A B C : World}, Kp A B → Kp B C → Kp A C) (hKb : ∀ (W : World) (l : Nat) (o o' : Obj), w.heap.size ≤ l → W.heap[l]? = some o → o.isCells = false → o.isWalk = false → Kp W (W.putObj l o')) (hps : ∀ x, (encs x).size = ps.size)
    (I : List α → World → Prop) (Ix : Code → List α → World → Prop) (hI : OwnFrom w.heap.size I) (hIx : ∀ c, OwnFrom w.heap.size (Ix c)) (hIc : AbC w.heap.size t I) (hIxc : ∀ c, AbC w.heap.size t (Ix c)) (h0 : I [] w)
    (Ax : α → Act → World → Prop) (hAx : ∀ x a', OwnFrom w.heap.size (fun (_ : Unit) W => Ax x a' W))
    (hassign : ∀ (l : Nat) (pre : List α) (x : α) (W : World) (K : Act → World → Prop), I pre W → (∀ a' W', KeepsFrom w.heap.size W W' → Kp W W' → I pre W' → Ax x a' W' → K a' W') →
      assign.wpIn (Fence.wide.inRound l) (n - 1 - 1) P (Exit.then K (fun _ _ _ => False)) { tmps := (ps.zip (encs x)).foldl (fun t (p, v) => t.setIfInBounds p v) a.tmps, defers := [] } W)
    (hbody : ∀ (l : Nat) (pre : List α) (x : α) (a' : Act) (W : World), w.heap.size ≤ l → I pre W → Ax x a' W → G pre x → body.wpIn (Fence.wide.inRound l) (n - 1 - 1) P (ownPostG w.heap.size Kp I Ix (pre ++ [x]) W) a' W)
    (hdone : ∀ (D : Nat) (xs : List α) (W : World), w.heap.size ≤ D → S xs → I xs W → W.heap[D]? = some (.deferred (some [])) → Q .normal { a with defers := { target := .collected D, args := #[] } :: a.defers } W)
    (hstop : ∀ (D : Nat) (c : Code) (pre : List α) (W : World), w.heap.size ≤ D → Sp pre → Ix c pre W → W.heap[D]? = some (.deferred (some [])) → c.wpIn Fence.wide n P Q { a with defers := { target := .collected D, args := #[] } :: a.defers } W) :
    (Code.rangeFunc g ps assign body).wpIn Fence.wide n P Q a w := by
  refine wpIn_rangeFunc fun fn hfn => ?_
  obtain ⟨R, hR⟩ : ∃ R : LoopState → Option Code → Loop, R = fun st pe => { state := st, pending := pe, fn, tmps := a.tmps, params := ps, assign, body, defers := w.heap.size } := ⟨_, rfl⟩
  obtain ⟨W1, hW1⟩ : ∃ W1, (w.alloc (.deferred (some []))).alloc (.loop (R .ready none)) = W1 := ⟨_, rfl⟩
  have hL1 : Laid w (R .ready none) W1 := by rw [← hW1]; exact Laid.new w _
  have hI1 : I [] W1 := by rw [← hW1]; exact hI.alloc _ (hI.alloc _ h0)
  have hs1 : W1.heap.size = w.heap.size + 2 := by rw [← hW1]; simp
  have hb1 : Below w0.heap.size w0 W1 := by
    rw [← hW1]; exact hb0.trans ((((Below.refl _ w).alloc (Nat.le_refl _) _).alloc (by simp) _).mono hb0.size)
  -- the caller's word, put where a round's record stands
  have put : ∀ {r : Loop} (r' : Loop) {W : World}, Laid w r W → Kp W (W.putObj (w.heap.size + 1) (.loop r')) := fun r' W h => hKb _ _ _ _ (by omega) h.1 rfl rfl
  have wide : ∀ {W W' : World}, CStep W1.heap.size t W W' → CStep w.heap.size t W W' := fun h => h.mono (by omega)
  refine ⟨w.heap.size + 1, [{ target := .collected w.heap.size, args := #[] }], W1, { target := .fn (.func gf) lb, args := #[.func (.yield (w.heap.size + 1)) #[] #[]] }, W1, gf, #[.func (.yield (w.heap.size + 1)) #[] #[]] ++ lb, W1, ?_, ?_, ?_, ?_, fun _ => h1, ?_⟩
  · rw [← hW1, hR]; exact run_enterLoop_outer _ _ _ _ _
  · simp only [resolve, hg]; simp [go_sem]
  · exact fun _ _ => trivial
  · simp [invoke, go_sem, eg]
  refine (hseq (w.heap.size + 1) (fun pre W => I pre W ∧ Laid w (R .ready none) W) (fun pre W => ∃ c, Ix c pre W ∧ Laid w (R .done (some c)) W) W1 hb1
    (fun s X Y hs hc => ⟨hIc s X Y hs.1 (wide hc), hs.2.step hc⟩) (fun s X Y ⟨c, hs, hl⟩ hc => ⟨c, hIxc c s X Y hs (wide hc), hl.step hc⟩) ?_ ⟨hI1, hL1⟩).mono ?_
  · rintro pre x W ⟨hi, hl⟩ hlen
    have hy := run_yield (P := P) (args := encs x) hl.1 (by rw [hR]; exact hps x)
    rw [hR] at hy
    refine ⟨fn, _, assign, body, hy, roundIn_of_wpIn hfn (hassign _ pre x W _ hi ?_)⟩
    clear hy
    intro a' X hkX hpX hiX hax
    have hlX := hl.from hkX
    refine ⟨_, run_beginRound hlX.1 (by rw [hR]), ?_⟩
    have hlB := hlX.put { R .ready none with state := .busy }
    have hiB := hI.putObj (.loop { R .ready none with state := .busy }) hiX (by omega) hlX.1 rfl
    have haB := (hAx x a').putObj (s := ()) (.loop { R .ready none with state := .busy }) hax (by omega) hlX.1 rfl
    have hpB := hKt hpX (put { R .ready none with state := .busy } hlX)
    refine wpIn_mono (hbody _ pre x a' _ (by omega) hiB haB hlen) ?_
    have stop : ∀ (c : Code) (W3 : World), KeepsFrom w.heap.size (X.putObj (w.heap.size + 1) (.loop { R .ready none with state := .busy })) W3 → Ix c (pre ++ [x]) W3 →
        ∃ v w', (Instr.endRound (w.heap.size + 1) (some c)).run P W3 = .ok v w' ∧ (((.returned v : Ending) = .returned (.bool true) ∧ (I (pre ++ [x]) w' ∧ Laid w (R .ready none) w') ∧ Kp W w') ∨ ((.returned v : Ending) = .returned (.bool false) ∧ ∃ c, Ix c (pre ++ [x]) w' ∧ Laid w (R .done (some c)) w')) := by
      intro c W3 hk3 hi3
      have hl3 := hlB.from hk3
      have he := run_endRound (P := P) (some c) hl3.1
      refine ⟨_, _, he, .inr ⟨rfl, c, (hIx c).putObj _ hi3 (by omega) hl3.1 rfl, ?_⟩⟩
      have := hl3.put (R .done (some c))
      rw [hR] at this ⊢
      exact this
    rintro e a3 W3 hp
    cases e with
    | normal =>
      obtain ⟨hk3, hp3, hi3⟩ := hp
      have hl3 := hlB.from hk3
      have he := run_endRound (P := P) none hl3.1
      refine ⟨_, _, he, .inl ⟨rfl, ⟨hI.putObj _ hi3 (by omega) hl3.1 rfl, ?_⟩, hKt (hKt hpB hp3) (put _ hl3)⟩⟩
      have := hl3.put (R .ready none)
      rw [hR] at this ⊢
      exact this
    | ret => exact stop .ret W3 hp.1 hp.2
    | exit id => exact stop (.exit id) W3 hp.1 hp.2
    | goto t => exact stop (.goto t) W3 hp.1 hp.2
    | panic ch => exact hp.elim
    | outgrown => exact hp.elim
  · rintro e W2 ⟨⟨v, rfl⟩, (⟨xs, hS, hi, hl⟩ | ⟨pre, hSp, c, hi, hl⟩)⟩
    · have he := run_endLoop (P := P) hl.1 (by rw [hR]; simp)
      rw [hR] at he
      exact ⟨none, _, he, hdone _ xs _ (Nat.le_refl _) hS (hI.putObj _ hi (by omega) hl.1 rfl) ((World.putObj_heap_other (by omega)).trans hl.2)⟩
    · have he := run_endLoop (P := P) hl.1 (by rw [hR]; simp)
      rw [hR] at he
      exact ⟨some c, _, he, hstop _ c pre _ (Nat.le_refl _) hSp ((hIx c).putObj _ hi (by omega) hl.1 rfl) ((World.putObj_heap_other (by omega)).trans hl.2)⟩
end Go.Proofs.Ytglmhdlkhnlkiaa
/- A range over a function whose iterator has blocks of its own: what an invariant must abide, the iterator's contract, and the statement. Nothing here speaks of the program. -/
namespace Go.Proofs.Ytglmhdlkhnlkiaa
open Go.RowKit
variable {n : Nat} {P : Program}

/-- A step that turns blocks of a set alone, and lays new ones. -/
structure Stp (O : Nat → Prop) (W W' : World) : Prop where
  os : W'.os = W.os
  tape : W'.tape = W.tape
  output : W'.output = W.output
  size : W.heap.size ≤ W'.heap.size
  block : ∀ k, k < W.heap.size → ¬ O k → W'.heap[k]? = W.heap[k]?
theorem Stp.refl (O : Nat → Prop) (W : World) : Stp O W W := ⟨rfl, rfl, rfl, Nat.le_refl _, fun _ _ _ => rfl⟩
theorem Stp.trans {O O' : Nat → Prop} {A B C : World} (h : Stp O A B) (k : Stp O' B C) (hO : ∀ i, i < A.heap.size → O' i → O i) : Stp O A C :=
  ⟨k.os.trans h.os, k.tape.trans h.tape, k.output.trans h.output, Nat.le_trans h.size k.size, fun i hi hn => (k.block i (Nat.lt_of_lt_of_le hi h.size) fun h' => hn (hO i hi h')).trans (h.block i hi hn)⟩
theorem Stp.below {O : Nat → Prop} {W W' : World} (h : Stp O W W') {B : Nat} (hB : ∀ k, O k → B ≤ k) (hW : B ≤ W.heap.size) : Below B W W' :=
  ⟨h.os, h.tape, h.output, h.size, fun k hk => h.block k (by omega) fun hO => by have := hB k hO; omega⟩
theorem Stp.of_below {O : Nat → Prop} {W W' : World} (h : Below W.heap.size W W') : Stp O W W' := ⟨h.os, h.tape, h.output, h.size, fun k hk _ => h.block k hk⟩
theorem Stp.grown {O : Nat → Prop} {W W' : World} {row : Option Nat} (h : W.grownBy W' row) (hr : ∀ r, row = some r → O r ∨ W.heap.size ≤ r) : Stp O W W' :=
  ⟨h.os, h.tape, h.output, h.size, fun k hk hn => h.block k hk fun e => (hr k e.symm).elim hn (by omega)⟩
/-- What abides such steps, the set growing by new blocks alone. -/
def AbS {β : Type} (J : (Nat → Prop) → β → World → Prop) : Prop := ∀ O O' s W W', J O s W → Stp O W W' → (∀ k, k < W.heap.size → O' k → O k) → J O' s W'
/-- What a visitor keeps. -/
structure Kq (O : Nat → Prop) (B : Nat) (W W' : World) : Prop where
  below : Below B W W'
  own : ∀ k, O k → W'.heap[k]? = W.heap[k]?
theorem Kq.t {O : Nat → Prop} {B : Nat} {X Y Z : World} (h : Kq O B X Y) (k : Kq O B Y Z) : Kq O B X Z := ⟨h.below.trans k.below, fun i hi => (k.own i hi).trans (h.own i hi)⟩
theorem Kq.refl (O : Nat → Prop) (B : Nat) (W : World) : Kq O B W W := ⟨Below.refl _ _, fun _ _ => rfl⟩
theorem Kq.of_below {O : Nat → Prop} {B : Nat} {W W' : World} (h : Below W.heap.size W W') (hB : B ≤ W.heap.size) (hO : ∀ k, O k → k < W.heap.size) : Kq O B W W' := ⟨h.mono hB, fun k hk => h.block k (hO k hk)⟩
theorem Kq.grown {O : Nat → Prop} {B : Nat} {W W' : World} {row : Option Nat} (h : W.grownBy W' row) (hB : B ≤ W.heap.size) (hO : ∀ k, O k → k < W.heap.size) (hr : ∀ r, row = some r → B ≤ r ∧ ¬ O r) : Kq O B W W' :=
  ⟨(Below.refl _ _).grown h hB fun k e => (hr k e).1, fun k hk => h.block k (hO k hk) fun e => (hr k e.symm).2 hk⟩
theorem AbS.pure {β : Type} {p : β → Prop} : AbS (fun _ s (_ : World) => p s) := fun _ _ _ _ _ h _ _ => h
theorem AbS.and {β : Type} {I J : (Nat → Prop) → β → World → Prop} (h : AbS I) (k : AbS J) : AbS (fun O s W => I O s W ∧ J O s W) := fun O O' s W W' hs hc hO => ⟨h O O' s W W' hs.1 hc hO, k O O' s W W' hs.2 hc hO⟩
theorem AbS.box {β : Type} {b : Nat} {u : TypeId} {f : β → Value} : AbS (fun O s W => Boxed W b u (f s) ∧ ¬ O b) := fun _ _ _ _ _ hs hc hO =>
  ⟨(hc.block b hs.1.lt hs.2).trans hs.1, fun h => hs.2 (hO b hs.1.lt h)⟩
theorem AbS.below {β : Type} {C : Nat} {w : World} (hw : C ≤ w.heap.size) : AbS (fun O (_ : β) W => Below C w W ∧ ∀ k, O k → C ≤ k) := fun _ _ _ W _ hs hc hO =>
  ⟨hs.1.trans (hc.below hs.2 (Nat.le_trans hw hs.1.size)), fun k hk => by
    by_cases h : k < W.heap.size
    · exact hs.2 k (hO k h hk)
    · have := hs.1.size; omega⟩
/-- The iterator's contract: what it owns is from where it began on. -/
def SeqS {α : Type} (n : Nat) (P : Program) (g : Nat) (lb : Array Value) (B : Nat) (encs : α → Array Value) (S Sp : List α → Prop) (G : List α → α → Prop) (w : World) : Prop :=
  ∀ (l : Nat) (J Jx : (Nat → Prop) → List α → World → Prop) (W : World), Below w.heap.size w W → AbS J → AbS Jx →
    (∀ O pre x W1, J O pre W1 → (∀ k, O k → W.heap.size ≤ k ∧ k < W1.heap.size) → W.heap.size ≤ W1.heap.size → Below B W W1 → G pre x → YieldAt Fence.wide (n - 1) P l (encs x) W1 fun e W' =>
      (e = .returned (.bool true) ∧ J O (pre ++ [x]) W' ∧ Kq O B W1 W') ∨ (e = .returned (.bool false) ∧ Jx O (pre ++ [x]) W' ∧ Kq O B W1 W')) → J (fun _ => False) [] W →
    CallsIn Fence.wide n P g (#[.func (.yield l) #[] #[]] ++ lb) W fun e W' => (∃ v, e = .returned v) ∧ ((∃ xs O, S xs ∧ J O xs W') ∨ (∃ pre O, Sp pre ∧ Jx O pre W'))
/-- The statement. -/
theorem wpIn_rangeS {α : Type} {g : Operand} {ps : Array Tmp} {assign body : Code} {Q : Exit → Act → World → Prop} {a : Act} {w : World}
    (h1 : 1 ≤ n) {gf : Nat} {lb : Array Value} (hg : a.eval g = .func (.func gf) #[] lb) (eg : ∀ args w, (callFunc gf args).run P w = .ok (.enter gf args) w)
    {B : Nat} {encs : α → Array Value} {S Sp : List α → Prop} {G : List α → α → Prop} {w0 : World} (hseq : SeqS (n - 1) P gf lb B encs S Sp G w0) (hb0 : Below w0.heap.size w0 w) (hBw : B ≤ w.heap.size)
    (hps : ∀ x, (encs x).size = ps.size)
    (I : (Nat → Prop) → List α → World → Prop) (Ix : Code → (Nat → Prop) → List α → World → Prop) (hI : ∀ O, OwnFrom w.heap.size (I O)) (hIx : ∀ c O, OwnFrom w.heap.size (Ix c O)) (hIc : AbS I) (hIxc : ∀ c, AbS (Ix c)) (h0 : I (fun _ => False) [] w)
    (Ax : α → Act → World → Prop) (hAx : ∀ x a', OwnFrom w.heap.size (fun (_ : Unit) W => Ax x a' W))
    (hassign : ∀ (l : Nat) (O : Nat → Prop) (pre : List α) (x : α) (W : World) (K : Act → World → Prop), I O pre W → w.heap.size ≤ W.heap.size → (∀ k, O k → w.heap.size ≤ k ∧ k < W.heap.size) → (∀ a' W', KeepsFrom w.heap.size W W' → Kq O B W W' → I O pre W' → Ax x a' W' → K a' W') →
      assign.wpIn (Fence.wide.inRound l) (n - 1 - 1) P (Exit.then K (fun _ _ _ => False)) { tmps := (ps.zip (encs x)).foldl (fun t (p, v) => t.setIfInBounds p v) a.tmps, defers := [] } W)
    (hbody : ∀ (l : Nat) (O : Nat → Prop) (pre : List α) (x : α) (a' : Act) (W : World), w.heap.size ≤ l → I O pre W → w.heap.size ≤ W.heap.size → (∀ k, O k → w.heap.size ≤ k ∧ k < W.heap.size) → Ax x a' W → G pre x → body.wpIn (Fence.wide.inRound l) (n - 1 - 1) P (ownPostG w.heap.size (Kq O B) (I O) (fun c s W' => Ix c O s W' ∧ Kq O B W W') (pre ++ [x]) W) a' W)
    (hdone : ∀ (D : Nat) (O : Nat → Prop) (xs : List α) (W : World), w.heap.size ≤ D → S xs → I O xs W → W.heap[D]? = some (.deferred (some [])) → Q .normal { a with defers := { target := .collected D, args := #[] } :: a.defers } W)
    (hstop : ∀ (D : Nat) (c : Code) (O : Nat → Prop) (pre : List α) (W : World), w.heap.size ≤ D → Sp pre → Ix c O pre W → W.heap[D]? = some (.deferred (some [])) → c.wpIn Fence.wide n P Q { a with defers := { target := .collected D, args := #[] } :: a.defers } W) :
    (Code.rangeFunc g ps assign body).wpIn Fence.wide n P Q a w := by
  refine wpIn_rangeFunc fun fn hfn => ?_
  obtain ⟨R, hR⟩ : ∃ R : LoopState → Option Code → Loop, R = fun st pe => { state := st, pending := pe, fn, tmps := a.tmps, params := ps, assign, body, defers := w.heap.size } := ⟨_, rfl⟩
  obtain ⟨W1, hW1⟩ : ∃ W1, (w.alloc (.deferred (some []))).alloc (.loop (R .ready none)) = W1 := ⟨_, rfl⟩
  have hL1 : Laid w (R .ready none) W1 := by rw [← hW1]; exact Laid.new w _
  have hI1 : I (fun _ => False) [] W1 := by rw [← hW1]; exact (hI _).alloc _ ((hI _).alloc _ h0)
  have hs1 : W1.heap.size = w.heap.size + 2 := by rw [← hW1]; simp
  have hb1 : Below w0.heap.size w0 W1 := by
    rw [← hW1]; exact hb0.trans ((((Below.refl _ w).alloc (Nat.le_refl _) _).alloc (by simp) _).mono hb0.size)
  -- the two blocks lie outside of the iterator's
  obtain ⟨Far, hFar⟩ : ∃ Far : (Nat → Prop) → Prop, Far = fun O => ¬ O w.heap.size ∧ ¬ O (w.heap.size + 1) := ⟨_, rfl⟩
  have far : ∀ {O O' : Nat → Prop} {W W' : World}, Far O → Stp O W W' → w.heap.size + 2 ≤ W.heap.size → (∀ k, k < W.heap.size → O' k → O k) → Far O' := by
    intro O O' W W' h _ hz hO
    rw [hFar] at h ⊢
    exact ⟨fun e => h.1 (hO _ (by omega) e), fun e => h.2 (hO _ (by omega) e)⟩
  have stay : ∀ {r : Loop} {O : Nat → Prop} {W W' : World}, Laid w r W → Far O → Stp O W W' → Laid w r W' := by
    intro r O W W' hl hf hs
    rw [hFar] at hf
    exact ⟨(hs.block _ (Array.getElem?_eq_some_iff.1 hl.1).1 hf.2).trans hl.1, (hs.block _ (Array.getElem?_eq_some_iff.1 hl.2).1 hf.1).trans hl.2⟩
  have two : ∀ {r : Loop} {W : World}, Laid w r W → w.heap.size + 2 ≤ W.heap.size := fun h => by have := (Array.getElem?_eq_some_iff.1 h.1).1; omega
  have put : ∀ {r : Loop} (r' : Loop) {O : Nat → Prop} {W : World}, Far O → Laid w r W → Kq O B W (W.putObj (w.heap.size + 1) (.loop r')) := by
    intro r r' O W hf h
    have hz := two h
    rw [hFar] at hf
    have hg := grownBy_putObj' W (w.heap.size + 1) (.loop r')
    refine ⟨(Below.refl _ _).grown hg (by omega) (fun k e => by cases e; omega), fun k hk => ?_⟩
    exact World.putObj_heap_other (fun e => hf.2 (by rw [← e]; exact hk))
  refine ⟨w.heap.size + 1, [{ target := .collected w.heap.size, args := #[] }], W1, { target := .fn (.func gf) lb, args := #[.func (.yield (w.heap.size + 1)) #[] #[]] }, W1, gf, #[.func (.yield (w.heap.size + 1)) #[] #[]] ++ lb, W1, ?_, ?_, ?_, ?_, fun _ => h1, ?_⟩
  · rw [← hW1, hR]; exact run_enterLoop_outer _ _ _ _ _
  · simp only [resolve, hg]; simp [go_sem]
  · exact fun _ _ => trivial
  · simp [invoke, go_sem, eg]
  refine (hseq (w.heap.size + 1) (fun O pre W => I O pre W ∧ Laid w (R .ready none) W ∧ Far O) (fun O pre W => ∃ c, Ix c O pre W ∧ Laid w (R .done (some c)) W ∧ Far O) W1 hb1
    (fun O O' s X Y hs hc hO => ⟨hIc O O' s X Y hs.1 hc hO, stay hs.2.1 hs.2.2 hc, far hs.2.2 hc (two hs.2.1) hO⟩) (fun O O' s X Y ⟨c, hs, hl, hf⟩ hc hO => ⟨c, hIxc c O O' s X Y hs hc hO, stay hl hf hc, far hf hc (two hl) hO⟩) ?_ ⟨hI1, hL1, by rw [hFar]; exact ⟨id, id⟩⟩).mono ?_
  · rintro O pre x W ⟨hi, hl, hf⟩ hOW hsW _ hlen
    have hy := run_yield (P := P) (args := encs x) hl.1 (by rw [hR]; exact hps x)
    rw [hR] at hy
    have hOw : ∀ k, O k → w.heap.size ≤ k ∧ k < W.heap.size := fun k hk => ⟨by have := (hOW k hk).1; omega, (hOW k hk).2⟩
    refine ⟨fn, _, assign, body, hy, roundIn_of_wpIn hfn (hassign _ O pre x W _ hi (by omega) hOw ?_)⟩
    clear hy
    intro a' X hkX hpX hiX hax
    have hlX := hl.from hkX
    refine ⟨_, run_beginRound hlX.1 (by rw [hR]), ?_⟩
    have hlB := hlX.put { R .ready none with state := .busy }
    have hiB := (hI O).putObj (.loop { R .ready none with state := .busy }) hiX (by omega) hlX.1 rfl
    have haB := (hAx x a').putObj (s := ()) (.loop { R .ready none with state := .busy }) hax (by omega) hlX.1 rfl
    have hpB := Kq.t hpX (put { R .ready none with state := .busy } hf hlX)
    have hszB := hpX.below.size
    refine wpIn_mono (hbody _ O pre x a' _ (by omega) hiB (by simp; omega) (fun k hk => ⟨(hOw k hk).1, by have := (hOw k hk).2; simp; omega⟩) haB hlen) ?_
    have stop : ∀ (c : Code) (W3 : World), KeepsFrom w.heap.size (X.putObj (w.heap.size + 1) (.loop { R .ready none with state := .busy })) W3 → (Ix c O (pre ++ [x]) W3 ∧ Kq O B (X.putObj (w.heap.size + 1) (.loop { R .ready none with state := .busy })) W3) →
        ∃ v w', (Instr.endRound (w.heap.size + 1) (some c)).run P W3 = .ok v w' ∧ (((.returned v : Ending) = .returned (.bool true) ∧ (I O (pre ++ [x]) w' ∧ Laid w (R .ready none) w' ∧ Far O) ∧ Kq O B W w') ∨ ((.returned v : Ending) = .returned (.bool false) ∧ (∃ c, Ix c O (pre ++ [x]) w' ∧ Laid w (R .done (some c)) w' ∧ Far O) ∧ Kq O B W w')) := by
      rintro c W3 hk3 ⟨hi3, hq3⟩
      have hl3 := hlB.from hk3
      have he := run_endRound (P := P) (some c) hl3.1
      refine ⟨_, _, he, .inr ⟨rfl, ⟨c, (hIx c O).putObj _ hi3 (by omega) hl3.1 rfl, ?_, hf⟩, Kq.t (Kq.t hpB hq3) (put _ hf hl3)⟩⟩
      have := hl3.put (R .done (some c))
      rw [hR] at this ⊢
      exact this
    rintro e a3 W3 hp
    cases e with
    | normal =>
      obtain ⟨hk3, hp3, hi3⟩ := hp
      have hl3 := hlB.from hk3
      have he := run_endRound (P := P) none hl3.1
      refine ⟨_, _, he, .inl ⟨rfl, ⟨(hI O).putObj _ hi3 (by omega) hl3.1 rfl, ?_, hf⟩, Kq.t (Kq.t hpB hp3) (put _ hf hl3)⟩⟩
      have := hl3.put (R .ready none)
      rw [hR] at this ⊢
      exact this
    | ret => exact stop .ret W3 hp.1 hp.2
    | exit id => exact stop (.exit id) W3 hp.1 hp.2
    | goto t => exact stop (.goto t) W3 hp.1 hp.2
    | panic ch => exact hp.elim
    | outgrown => exact hp.elim
  · rintro e W2 ⟨⟨v, rfl⟩, (⟨xs, O, hS, hi, hl, _⟩ | ⟨pre, O, hSp, c, hi, hl, _⟩)⟩
    · have he := run_endLoop (P := P) hl.1 (by rw [hR]; simp)
      rw [hR] at he
      exact ⟨none, _, he, hdone _ O xs _ (Nat.le_refl _) hS ((hI O).putObj _ hi (by omega) hl.1 rfl) ((World.putObj_heap_other (by omega)).trans hl.2)⟩
    · have he := run_endLoop (P := P) hl.1 (by rw [hR]; simp)
      rw [hR] at he
      exact ⟨some c, _, he, hstop _ c O pre _ (Nat.le_refl _) hSp ((hIx c O).putObj _ hi (by omega) hl.1 rfl) ((World.putObj_heap_other (by omega)).trans hl.2)⟩
end Go.Proofs.Ytglmhdlkhnlkiaa
