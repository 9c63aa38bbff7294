/- Texts of one proof, one behind the other. -/
import Derived.Test.YtojgiienohpaiaaGreatMgCycleFinds2
import Derived.Test.YtojgiienohpaiaaGreatMgCycleFinds4
import Derived.Test.YtojgiienohpaiaaGreatMgCycleFinds3
import Derived.Test.YtojgiienohpaiaaGreatMgCycleFinds1
namespace Go.Proofs.YtojgiienohpaiaaGreat
open Go.RowKit
variable {n : Nat} {P : Program}

def SeqG {α : Type} (n : Nat) (P : Program) (g : Nat) (lb : Array Value) (t : TypeId) (encs : α → Array Value) (Kp : World → World → Prop) (S Sp : List α → Prop) (G : List α → α → Prop) (w : World) : Prop :=
  ∀ (l : Nat) (J Jx : List α → World → Prop) (W : World), Below w.heap.size w W → AbC W.heap.size t J → AbC W.heap.size t Jx →
    (∀ pre x W1, J pre W1 → G pre x → YieldAt Fence.wide (n - 1) P l (encs x) W1 fun e W' =>
      (e = .returned (.bool true) ∧ J (pre ++ [x]) W' ∧ Kp W1 W') ∨ (e = .returned (.bool false) ∧ Jx (pre ++ [x]) W')) → J [] W →
    CallsIn Fence.wide n P g (#[.func (.yield l) #[] #[]] ++ lb) W fun e W' => (∃ v, e = .returned v) ∧ ((∃ xs, S xs ∧ J xs W') ∨ (∃ pre, Sp pre ∧ Jx pre W'))
theorem wpIn_rangeG {α : Type} {g : Operand} {ps : Array Tmp} {assign body : Code} {Q : Exit → Act → World → Prop} {a : Act} {w : World}
    (h1 : 1 ≤ n) {gf : Nat} {lb : Array Value} (hg : a.eval g = .func (.func gf) #[] lb) (eg : ∀ args w, (callFunc gf args).run P w = .ok (.enter gf args) w)
    {t : TypeId} {encs : α → Array Value} {Kp : World → World → Prop} {S Sp : List α → Prop} {G : List α → α → Prop} {w0 : World} (hseq : SeqG (n - 1) P gf lb t encs Kp S Sp G w0) (hb0 : Below w0.heap.size w0 w)
    (hKt : ∀ {A B C : World}, Kp A B → Kp B C → Kp A C) (hKb : ∀ (W : World) (l : Nat) (o o' : Obj), w.heap.size ≤ l → W.heap[l]? = some o → o.isCells = false → o.isWalk = false → Kp W (W.putObj l o')) (hps : ∀ x, (encs x).size = ps.size)
    (I : List α → World → Prop) (Ix : Code → List α → World → Prop) (hI : OwnFrom w.heap.size I) (hIx : ∀ c, OwnFrom w.heap.size (Ix c)) (hIc : AbC w.heap.size t I) (hIxc : ∀ c, AbC w.heap.size t (Ix c)) (h0 : I [] w)
    (Ax : α → Act → World → Prop) (hAx : ∀ x a', OwnFrom w.heap.size (fun (_ : Unit) W => Ax x a' W))
    (hassign : ∀ (l : Nat) (pre : List α) (x : α) (W : World) (K : Act → World → Prop), I pre W → (∀ a' W', KeepsFrom w.heap.size W W' → Kp W W' → I pre W' → Ax x a' W' → K a' W') →
      assign.wpIn (Fence.wide.inRound l) (n - 1 - 1) P (Exit.then K (fun _ _ _ => False)) { tmps := (ps.zip (encs x)).foldl (fun t (p, v) => t.setIfInBounds p v) a.tmps, defers := [] } W)
    (hbody : ∀ (l : Nat) (pre : List α) (x : α) (a' : Act) (W : World), w.heap.size ≤ l → I pre W → Ax x a' W → G pre x → body.wpIn (Fence.wide.inRound l) (n - 1 - 1) P (ownPostG w.heap.size Kp I Ix (pre ++ [x]) W) a' W)
    (hdone : ∀ (D : Nat) (xs : List α) (W : World), w.heap.size ≤ D → S xs → I xs W → W.heap[D]? = some (.deferred (some [])) → Q .normal { a with defers := { target := .collected D, args := #[] } :: a.defers } W)
    (hstop : ∀ (D : Nat) (c : Code) (pre : List α) (W : World), w.heap.size ≤ D → Sp pre → Ix c pre W → W.heap[D]? = some (.deferred (some [])) → c.wpIn Fence.wide n P Q { a with defers := { target := .collected D, args := #[] } :: a.defers } W) :
    (Code.rangeFunc g ps assign body).wpIn Fence.wide n P Q a w := by
  refine wpIn_rangeFunc fun fn hfn => ?_
  obtain ⟨R, hR⟩ : ∃ R : LoopState → Option Code → Loop, R = fun st pe => { state := st, pending := pe, fn, tmps := a.tmps, params := ps, assign, body, defers := w.heap.size } := ⟨_, rfl⟩
  obtain ⟨W1, hW1⟩ : ∃ W1, (w.alloc (.deferred (some []))).alloc (.loop (R .ready none)) = W1 := ⟨_, rfl⟩
  have hL1 : Laid w (R .ready none) W1 := by rw [← hW1]; exact Laid.new w _
  have hI1 : I [] W1 := by rw [← hW1]; exact hI.alloc _ (hI.alloc _ h0)
  have hs1 : W1.heap.size = w.heap.size + 2 := by rw [← hW1]; simp
  have hb1 : Below w0.heap.size w0 W1 := by
    rw [← hW1]; exact hb0.trans ((((Below.refl _ w).alloc (Nat.le_refl _) _).alloc (by simp) _).mono hb0.size)
  -- the caller's word, put where a round's record stands
  have put : ∀ {r : Loop} (r' : Loop) {W : World}, Laid w r W → Kp W (W.putObj (w.heap.size + 1) (.loop r')) := fun r' W h => hKb _ _ _ _ (by omega) h.1 rfl rfl
  have wide : ∀ {W W' : World}, CStep W1.heap.size t W W' → CStep w.heap.size t W W' := fun h => h.mono (by omega)
  refine ⟨w.heap.size + 1, [{ target := .collected w.heap.size, args := #[] }], W1, { target := .fn (.func gf) lb, args := #[.func (.yield (w.heap.size + 1)) #[] #[]] }, W1, gf, #[.func (.yield (w.heap.size + 1)) #[] #[]] ++ lb, W1, ?_, ?_, ?_, ?_, fun _ => h1, ?_⟩
  · rw [← hW1, hR]; exact run_enterLoop_outer _ _ _ _ _
  · simp only [resolve, hg]; simp [go_sem]
  · exact fun _ _ => trivial
  · simp [invoke, go_sem, eg]
  refine (hseq (w.heap.size + 1) (fun pre W => I pre W ∧ Laid w (R .ready none) W) (fun pre W => ∃ c, Ix c pre W ∧ Laid w (R .done (some c)) W) W1 hb1
    (fun s X Y hs hc => ⟨hIc s X Y hs.1 (wide hc), hs.2.step hc⟩) (fun s X Y ⟨c, hs, hl⟩ hc => ⟨c, hIxc c s X Y hs (wide hc), hl.step hc⟩) ?_ ⟨hI1, hL1⟩).mono ?_
  · rintro pre x W ⟨hi, hl⟩ hlen
    have hy := run_yield (P := P) (args := encs x) hl.1 (by rw [hR]; exact hps x)
    rw [hR] at hy
    refine ⟨fn, _, assign, body, hy, roundIn_of_wpIn hfn (hassign _ pre x W _ hi ?_)⟩
    clear hy
    intro a' X hkX hpX hiX hax
    have hlX := hl.from hkX
    refine ⟨_, run_beginRound hlX.1 (by rw [hR]), ?_⟩
    have hlB := hlX.put { R .ready none with state := .busy }
    have hiB := hI.putObj (.loop { R .ready none with state := .busy }) hiX (by omega) hlX.1 rfl
    have haB := (hAx x a').putObj (s := ()) (.loop { R .ready none with state := .busy }) hax (by omega) hlX.1 rfl
    have hpB := hKt hpX (put { R .ready none with state := .busy } hlX)
    refine wpIn_mono (hbody _ pre x a' _ (by omega) hiB haB hlen) ?_
    have stop : ∀ (c : Code) (W3 : World), KeepsFrom w.heap.size (X.putObj (w.heap.size + 1) (.loop { R .ready none with state := .busy })) W3 → Ix c (pre ++ [x]) W3 →
        ∃ v w', (Instr.endRound (w.heap.size + 1) (some c)).run P W3 = .ok v w' ∧ (((.returned v : Ending) = .returned (.bool true) ∧ (I (pre ++ [x]) w' ∧ Laid w (R .ready none) w') ∧ Kp W w') ∨ ((.returned v : Ending) = .returned (.bool false) ∧ ∃ c, Ix c (pre ++ [x]) w' ∧ Laid w (R .done (some c)) w')) := by
      intro c W3 hk3 hi3
      have hl3 := hlB.from hk3
      have he := run_endRound (P := P) (some c) hl3.1
      refine ⟨_, _, he, .inr ⟨rfl, c, (hIx c).putObj _ hi3 (by omega) hl3.1 rfl, ?_⟩⟩
      have := hl3.put (R .done (some c))
      rw [hR] at this ⊢
      exact this
    rintro e a3 W3 hp
    cases e with
    | normal =>
      obtain ⟨hk3, hp3, hi3⟩ := hp
      have hl3 := hlB.from hk3
      have he := run_endRound (P := P) none hl3.1
      refine ⟨_, _, he, .inl ⟨rfl, ⟨hI.putObj _ hi3 (by omega) hl3.1 rfl, ?_⟩, hKt (hKt hpB hp3) (put _ hl3)⟩⟩
      have := hl3.put (R .ready none)
      rw [hR] at this ⊢
      exact this
    | ret => exact stop .ret W3 hp.1 hp.2
    | exit id => exact stop (.exit id) W3 hp.1 hp.2
    | goto t => exact stop (.goto t) W3 hp.1 hp.2
    | panic ch => exact hp.elim
    | outgrown => exact hp.elim
  · rintro e W2 ⟨⟨v, rfl⟩, (⟨xs, hS, hi, hl⟩ | ⟨pre, hSp, c, hi, hl⟩)⟩
    · have he := run_endLoop (P := P) hl.1 (by rw [hR]; simp)
      rw [hR] at he
      exact ⟨none, _, he, hdone _ xs _ (Nat.le_refl _) hS (hI.putObj _ hi (by omega) hl.1 rfl) ((World.putObj_heap_other (by omega)).trans hl.2)⟩
    · have he := run_endLoop (P := P) hl.1 (by rw [hR]; simp)
      rw [hR] at he
      exact ⟨some c, _, he, hstop _ c pre _ (Nat.le_refl _) hSp ((hIx c).putObj _ hi (by omega) hl.1 rfl) ((World.putObj_heap_other (by omega)).trans hl.2)⟩
end Go.Proofs.YtojgiienohpaiaaGreat
namespace Go.Proofs.YtojgiienohpaiaaGreat
open Go.RowKit Go.Shelf
attribute [local go_sem] Oper.semAt_some

def NextB (L : List Tr) (pre : List (Int × Tr)) (x : Int × Tr) : Prop := ∃ _ : pre.length < L.length, x = (((L.length - 1 - pre.length : Nat) : Int), L[L.length - 1 - pre.length])
set_option maxRecDepth 100000 in
set_option maxHeartbeats 2000000 in
theorem back1G (n : Nat) (hn : 1 ≤ n) (l Bs B : Nat) (A : Option Addr) (c : Nat) (L : List Tr) (hL : L.length ≤ 1000000) (J Jx : List (Int × Tr) → World → Prop)
    (hY : ∀ pre x W, J pre W → NextB L pre x → YieldAt Fence.wide (n - 1) Tryz.prog l #[.int .i64 x.1, trV x.2] W fun e W' =>
      (e = .returned (.bool true) ∧ J (pre ++ [x]) W' ∧ KpB B Bs W W') ∨ (e = .returned (.bool false) ∧ Jx (pre ++ [x]) W'))
    (W : World) (hBs : Boxed W Bs 45 (.slice A L.length c)) (hR : RdX B W (.slice A L.length c) L) (h0 : J [] W) :
    CallsIn Fence.wide n Tryz.prog 76 #[.func (.yield l) #[] #[], .pointer (some ⟨Bs, 0, none⟩)] W fun e W' => (∃ v, e = .returned v) ∧
      ((∃ ys : List (Int × Tr), ys.map (·.2) = L.reverse ∧ J ys W') ∨ (∃ pre, Jx pre W')) := by
  refine callsIn_of_wp Tryz.func76 rfl trivial ?_ rfl
  simp only [Tryz.ntmps76, List.size_toArray, List.length_cons, List.length_nil, Nat.reduceAdd, Nat.reduceSub, Array.replicate_succ, Array.replicate_zero, List.push_toArray, List.append_toArray, List.nil_append, List.cons_append]
  have e00 : W.cell? ⟨Bs, 0, none⟩ = some (.slice A L.length c) := hBs.cell
  have HBS := Lib.hid hBs
  clear hBs
  gi_wp2
  gi_loopw [3] (fun i wr => ∃ (k : Nat) (z : Int) (pre : List (Int × Tr)), k ≤ L.length ∧ i = .int .i64 z ∧ z + 1 = k ∧ pre.map (·.2) = (L.drop k).reverse ∧ J pre wr ∧ Below B W wr ∧ Boxed wr Bs 45 (.slice A L.length c))
    (fun i _ => (intOf i + 1).toNat)
  case atStart => exact ⟨L.length, _, [], Nat.le_refl _, rfl, by omega, by simp, h0, Below.refl _ _, HBS.out⟩
  case round =>
    obtain ⟨k, z, pre, hk, rfl, hz, hpre, hJs, hnx, hbx⟩ := hrel
    have e0 : wr.cell? ⟨Bs, 0, none⟩ = some (.slice A L.length c) := hbx.cell
    have HBX := Lib.hid hbx
    clear hbx
    by_cases hk0 : 1 ≤ k
    · obtain ⟨A', c', hv, hf⟩ := hR.below hnx
      injection hv with hv1 _ hv3
      subst hv1; subst hv3
      obtain ⟨b, off, rfl, hlt, hc⟩ := hf (by omega)
      obtain ⟨c0, c1, c2⟩ := hc (k - 1) (by omega)
      have hdrop : L.drop (k - 1) = L[k - 1] :: L.drop k := by
        have := List.drop_eq_getElem_cons (l := L) (i := k - 1) (by omega)
        rwa [show k - 1 + 1 = k by omega] at this
      have hpl : pre.length < L.length := by
        have : (pre.map (·.2)).length = pre.length := by simp
        rw [hpre] at this
        simp at this
        omega
      have hnb : NextB L pre (z, L[k - 1]) := by
        have hpl2 : pre.length = L.length - k := by
          have : (pre.map (·.2)).length = pre.length := by simp
          rw [hpre] at this
          simp at this
          omega
        refine ⟨hpl, ?_⟩
        have e : L.length - 1 - pre.length = k - 1 := by omega
        rw [Prod.mk.injEq]
        exact ⟨by omega, by simp only [e]⟩
      obtain ⟨x, hx⟩ : ∃ x, L[k - 1] = x := ⟨_, rfl⟩
      rw [hx] at c0 c1 c2 hdrop hnb
      obtain ⟨x1, x2, x3⟩ := x
      dsimp only [slv] at c2
      obtain ⟨fn, tmps, assign, body, hy, hR2⟩ := hY pre (z, x1, x2, x3) wr hJs hnb
      dsimp only [trV, slv] at hy
      have f1 : (0 : Int) ≤ z := by omega
      have f2 : z < (L.length : Int) := by omega
      have f3 : z.toNat = k - 1 := by omega
      have f4 : decide ((0 : Int) ≤ z) = true := decide_eq_true f1
      have HZ := Lib.hid hz
      have HP := Lib.hid hpre
      have HD := Lib.hid hdrop
      clear hz hpre hdrop hx hc hf hpl hnb
      gi_wp2
      refine hR2.mono ?_
      rintro e W3 (⟨rfl, hJ3, hk3⟩ | ⟨rfl, hJx3⟩)
      · gi_wp2
        go_roundw
        case rel => exact ⟨k - 1, z - 1, pre ++ [(z, x1, x2, x3)], by omega, by go_num, by have := HZ.out; omega, by simp [HP.out, HD.out], hJ3, hnx.trans hk3.below, hk3.boxed HBX.out⟩
        case measure => simp [intOf]; omega
      · gi_wp2
        refine bodyPost_ret (results_none rfl _ _ _) rfl ?_
        exact ⟨⟨_, rfl⟩, .inr ⟨_, hJx3⟩⟩
    · obtain rfl : k = 0 := by omega
      have f1 : ¬ (0 : Int) ≤ z := by omega
      have f4 : decide ((0 : Int) ≤ z) = false := decide_eq_false f1
      have HP := Lib.hid hpre
      clear hz hpre
      gi_wp2
      go_end0
      exact ⟨⟨_, rfl⟩, .inl ⟨pre, by simpa using HP.out, hJs⟩⟩
theorem back_seqG (n : Nat) (hn : 1 ≤ n) (Bs B : Nat) (t : TypeId) (A : Option Addr) (c : Nat) (L : List Tr) (hL : L.length ≤ 1000000) (w : World) (hBw : B ≤ w.heap.size) (hBs : Boxed w Bs 45 (.slice A L.length c)) (hR : RdX B w (.slice A L.length c) L) :
    SeqG n Tryz.prog 76 #[.pointer (some ⟨Bs, 0, none⟩)] t (fun x : Int × Tr => #[Value.int .i64 x.1, trV x.2]) (KpB B Bs) (fun ys => ys.map (·.2) = L.reverse) (fun _ => True) (NextB L) w := fun l J Jx W hW _ _ hY h0 => by
  have hbs : Boxed W Bs 45 (.slice A L.length c) := (hW.block Bs hBs.lt).trans hBs
  refine (back1G n hn l Bs B A c L hL J Jx hY W hbs (hR.below (hW.mono hBw)) h0).mono ?_
  rintro e W' ⟨he, ⟨ys, hy, hj⟩ | ⟨pre, hj⟩⟩
  · exact ⟨he, .inl ⟨ys, hy, hj⟩⟩
  · exact ⟨he, .inr ⟨pre, trivial, hj⟩⟩
namespace Fo
def arrF : Fo → Int × Int × Fo
  | nil => (0, 0, nil)
  | cons k n v ps r => if r.len = 0 then (k, n, ps) else (4, 0, cons k n v ps (cons r.arrF.1 r.arrF.2.1 (none, 0, 0) r.arrF.2.2 nil))
theorem len_drop (f : Fo) (j : Nat) : (f.drop j).len = f.len - j := by
  induction f generalizing j with
  | nil => cases j <;> simp [drop, len]
  | cons k n v ps r _ ih =>
    cases j with
    | zero => simp [drop]
    | succ j => simp [drop, len, ih]
theorem top_get (f : Fo) (j : Nat) (hj : j < f.top.length) : f.top[j] = ((f.at_ j).1, (f.at_ j).2.1, (f.at_ j).2.2.1) := by
  induction f generalizing j with
  | nil => simp [top] at hj
  | cons k n v ps r _ ih =>
    cases j with
    | zero => rfl
    | succ j => simpa [top, at_] using ih j (by simpa [top] using hj)
end Fo
theorem FreshT.two {T : TypeId} {B : Nat} {w : World} {psx psy : Fo} {kx nx ky ny : Int} {ux uy vx vy : Sl} (hx : FreshT T B w idn psx ux) (hy : FreshT T B w idn psy uy) (c : Nat) (hB : B ≤ c) (hc : w.heap[c]? = some (Obj.cells #[.int .i64 kx, .int .i64 nx, slv ux, .int .i64 ky, .int .i64 ny, slv uy] T)) :
    FreshT T B w idn (.cons kx nx vx psx (.cons ky ny vy psy .nil)) (some ⟨c, 0, none⟩, 2, 2) := by
  intro W hs hk
  obtain ⟨gx, ix, tx⟩ := hx W hs hk
  obtain ⟨gy, iy, ty⟩ := hy W hs hk
  have hcW := hk c _ hB hc
  have cell := fun j => cell_of_row W c j _ _ (0, 0) hcW
  refine ⟨.cons kx nx ux gx (.cons ky ny uy gy .nil), ⟨rfl, (nm_id _ _).symm, ix, rfl, (nm_id _ _).symm, iy, trivial⟩, tyV_cons.2 ⟨c, 0, 2, rfl, Nat.le_refl _, by unfold maxLen; omega, (Array.getElem?_eq_some_iff.1 hcW).1, tyC_cons.2 ⟨cell 0, cell 1, cell 2, tx, tyC_cons.2 ⟨cell 3, cell 4, cell 5, ty, tyC_nil⟩⟩⟩⟩
end Go.Proofs.YtojgiienohpaiaaGreat
namespace Go.Proofs.YtojgiienohpaiaaGreat
open Go.RowKit Go.Shelf
attribute [local go_sem] Oper.semAt_some
def KpS (S : Nat → Prop) (W W' : World) : Prop := ∀ b, S b → ∀ o, W.heap[b]? = some o → o.isCells = true → W'.heap[b]? = some o
theorem KpS.refl (S : Nat → Prop) (W : World) : KpS S W W := fun _ _ _ h _ => h
theorem KpS.t {S : Nat → Prop} {X Y Z : World} (h : KpS S X Y) (k : KpS S Y Z) : KpS S X Z := fun b hb o ho hc => k b hb o (h b hb o ho hc) hc
theorem KpS.b {S : Nat → Prop} (W : World) (l : Nat) (o o' : Obj) (h : W.heap[l]? = some o) (h1 : o.isCells = false) : KpS S W (W.putObj l o') := fun b _ o2 ho hc => by
  have hne : b ≠ l := by
    rintro rfl
    rw [h] at ho
    injection ho with ho
    subst ho
    rw [h1] at hc; cases hc
  exact ((grownBy_putObj' W l o').block b (Array.getElem?_eq_some_iff.1 ho).1 (fun e => hne (by cases e; rfl))).trans ho
theorem KpS.boxed {S : Nat → Prop} {Bs : Nat} {W W' : World} {t : TypeId} {v : Value} (h : KpS S W W') (hs : S Bs) (hb : Boxed W Bs t v) : Boxed W' Bs t v := h Bs hs _ hb rfl
def RdY (S : Nat → Prop) (w : World) (v : Value) (L : List Tr) : Prop :=
  ∃ A c, v = .slice A L.length c ∧ (0 < L.length → ∃ b off cs t, A = some ⟨b, off, none⟩ ∧ S b ∧ w.heap[b]? = some (Obj.cells cs t) ∧ ∀ i (h : i < L.length), w.cell? ⟨b, off + i * 3, none⟩ = some (.int .i64 L[i].1) ∧ w.cell? ⟨b, off + i * 3 + 1, none⟩ = some (.int .i64 L[i].2.1) ∧ w.cell? ⟨b, off + i * 3 + 2, none⟩ = some (slv L[i].2.2))
theorem RdY.blocks {S : Nat → Prop} {w w' : World} {v : Value} {L : List Tr} (h : RdY S w v L) (hb : ∀ b cs t, S b → w.heap[b]? = some (Obj.cells cs t) → w'.heap[b]? = some (Obj.cells cs t)) : RdY S w' v L := by
  obtain ⟨A, c, hv, h⟩ := h
  refine ⟨A, c, hv, fun hn => ?_⟩
  obtain ⟨b, off, cs, t, hA, hs, hh, hc⟩ := h hn
  have h2 := hb b cs t hs hh
  have e : ∀ p, w'.cell? ⟨b, p, none⟩ = w.cell? ⟨b, p, none⟩ := fun p => World.cell?_of_block (a := ⟨b, p, none⟩) (h2.trans hh.symm)
  exact ⟨b, off, cs, t, hA, hs, h2, fun i hi => ⟨(e _).trans (hc i hi).1, (e _).trans (hc i hi).2.1, (e _).trans (hc i hi).2.2⟩⟩
theorem RdY.kept {S : Nat → Prop} {w w' : World} {v : Value} {L : List Tr} (h : RdY S w v L) (hk : KpS S w w') : RdY S w' v L := h.blocks fun b _ _ hs hh => hk b hs _ hh rfl
theorem RdY.below {S : Nat → Prop} {w w' : World} {v : Value} {L : List Tr} (h : RdY S w v L) (hk : Below w.heap.size w w') : RdY S w' v L := h.blocks fun b _ _ _ hh => (hk.block b (Array.getElem?_eq_some_iff.1 hh).1).trans hh
set_option maxRecDepth 100000 in
set_option maxHeartbeats 2000000 in
theorem back1S (n : Nat) (hn : 1 ≤ n) (l Bs : Nat) (S : Nat → Prop) (hSB : S Bs) (A : Option Addr) (c : Nat) (L : List Tr) (hL : L.length ≤ 1000000) (J Jx : List (Int × Tr) → World → Prop)
    (hY : ∀ pre x W, J pre W → NextB L pre x → YieldAt Fence.wide (n - 1) Tryz.prog l #[.int .i64 x.1, trV x.2] W fun e W' =>
      (e = .returned (.bool true) ∧ J (pre ++ [x]) W' ∧ KpS S W W') ∨ (e = .returned (.bool false) ∧ Jx (pre ++ [x]) W'))
    (W : World) (hBs : Boxed W Bs 45 (.slice A L.length c)) (hR : RdY S W (.slice A L.length c) L) (h0 : J [] W) :
    CallsIn Fence.wide n Tryz.prog 76 #[.func (.yield l) #[] #[], .pointer (some ⟨Bs, 0, none⟩)] W fun e W' => (∃ v, e = .returned v) ∧
      ((∃ ys : List (Int × Tr), ys.map (·.2) = L.reverse ∧ J ys W') ∨ (∃ pre, Jx pre W')) := by
  refine callsIn_of_wp Tryz.func76 rfl trivial ?_ rfl
  simp only [Tryz.ntmps76, List.size_toArray, List.length_cons, List.length_nil, Nat.reduceAdd, Nat.reduceSub, Array.replicate_succ, Array.replicate_zero, List.push_toArray, List.append_toArray, List.nil_append, List.cons_append]
  have e00 : W.cell? ⟨Bs, 0, none⟩ = some (.slice A L.length c) := hBs.cell
  have HBS := Lib.hid hBs
  clear hBs
  gi_wp2
  gi_loopw [3] (fun i wr => ∃ (k : Nat) (z : Int) (pre : List (Int × Tr)), k ≤ L.length ∧ i = .int .i64 z ∧ z + 1 = k ∧ pre.map (·.2) = (L.drop k).reverse ∧ J pre wr ∧ KpS S W wr ∧ Boxed wr Bs 45 (.slice A L.length c))
    (fun i _ => (intOf i + 1).toNat)
  case atStart => exact ⟨L.length, _, [], Nat.le_refl _, rfl, by omega, by simp, h0, KpS.refl _ _, HBS.out⟩
  case round =>
    obtain ⟨k, z, pre, hk, rfl, hz, hpre, hJs, hnx, hbx⟩ := hrel
    have e0 : wr.cell? ⟨Bs, 0, none⟩ = some (.slice A L.length c) := hbx.cell
    have HBX := Lib.hid hbx
    clear hbx
    by_cases hk0 : 1 ≤ k
    · obtain ⟨A', c', hv, hf⟩ := hR.kept hnx
      injection hv with hv1 _ hv3
      subst hv1; subst hv3
      obtain ⟨b, off, _, _, rfl, _, _, hc⟩ := hf (by omega)
      obtain ⟨c0, c1, c2⟩ := hc (k - 1) (by omega)
      have hdrop : L.drop (k - 1) = L[k - 1] :: L.drop k := by
        have := List.drop_eq_getElem_cons (l := L) (i := k - 1) (by omega)
        rwa [show k - 1 + 1 = k by omega] at this
      have hpl : pre.length < L.length := by
        have : (pre.map (·.2)).length = pre.length := by simp
        rw [hpre] at this
        simp at this
        omega
      have hnb : NextB L pre (z, L[k - 1]) := by
        have hpl2 : pre.length = L.length - k := by
          have : (pre.map (·.2)).length = pre.length := by simp
          rw [hpre] at this
          simp at this
          omega
        refine ⟨hpl, ?_⟩
        have e : L.length - 1 - pre.length = k - 1 := by omega
        rw [Prod.mk.injEq]
        exact ⟨by omega, by simp only [e]⟩
      obtain ⟨x, hx⟩ : ∃ x, L[k - 1] = x := ⟨_, rfl⟩
      rw [hx] at c0 c1 c2 hdrop hnb
      obtain ⟨x1, x2, x3⟩ := x
      dsimp only [slv] at c2
      obtain ⟨fn, tmps, assign, body, hy, hR2⟩ := hY pre (z, x1, x2, x3) wr hJs hnb
      dsimp only [trV, slv] at hy
      have f1 : (0 : Int) ≤ z := by omega
      have f2 : z < (L.length : Int) := by omega
      have f3 : z.toNat = k - 1 := by omega
      have f4 : decide ((0 : Int) ≤ z) = true := decide_eq_true f1
      have HZ := Lib.hid hz
      have HP := Lib.hid hpre
      have HD := Lib.hid hdrop
      clear hz hpre hdrop hx hc hf hpl hnb
      gi_wp2
      refine hR2.mono ?_
      rintro e W3 (⟨rfl, hJ3, hk3⟩ | ⟨rfl, hJx3⟩)
      · gi_wp2
        go_roundw
        case rel => exact ⟨k - 1, z - 1, pre ++ [(z, x1, x2, x3)], by omega, by go_num, by have := HZ.out; omega, by simp [HP.out, HD.out], hJ3, hnx.t hk3, hk3.boxed hSB HBX.out⟩
        case measure => simp [intOf]; omega
      · gi_wp2
        refine bodyPost_ret (results_none rfl _ _ _) rfl ?_
        exact ⟨⟨_, rfl⟩, .inr ⟨_, hJx3⟩⟩
    · obtain rfl : k = 0 := by omega
      have f1 : ¬ (0 : Int) ≤ z := by omega
      have f4 : decide ((0 : Int) ≤ z) = false := decide_eq_false f1
      have HP := Lib.hid hpre
      clear hz hpre
      gi_wp2
      go_end0
      exact ⟨⟨_, rfl⟩, .inl ⟨pre, by simpa using HP.out, hJs⟩⟩
theorem back_seqS (n : Nat) (hn : 1 ≤ n) (Bs : Nat) (S : Nat → Prop) (hSB : S Bs) (t : TypeId) (A : Option Addr) (c : Nat) (L : List Tr) (hL : L.length ≤ 1000000) (w : World) (hBs : Boxed w Bs 45 (.slice A L.length c)) (hR : RdY S w (.slice A L.length c) L) :
    SeqG n Tryz.prog 76 #[.pointer (some ⟨Bs, 0, none⟩)] t (fun x : Int × Tr => #[Value.int .i64 x.1, trV x.2]) (KpS S) (fun ys => ys.map (·.2) = L.reverse) (fun _ => True) (NextB L) w := fun l J Jx W hW _ _ hY h0 => by
  have hbs : Boxed W Bs 45 (.slice A L.length c) := (hW.block Bs hBs.lt).trans hBs
  refine (back1S n hn l Bs S hSB A c L hL J Jx hY W hbs (hR.below hW) h0).mono ?_
  rintro e W' ⟨he, ⟨ys, hy, hj⟩ | ⟨pre, hj⟩⟩
  · exact ⟨he, .inl ⟨ys, hy, hj⟩⟩
  · exact ⟨he, .inr ⟨pre, trivial, hj⟩⟩
end Go.Proofs.YtojgiienohpaiaaGreat
namespace Go.Proofs.YtojgiienohpaiaaGreat
open Go.RowKit Go.Shelf
theorem two_cells {X : World} (g cp : Nat) (k0 n0 k1 n1 : Int) (u0 u1 : Sl) (f0 f1 : Fo) (hg : g < X.heap.size) (hcp : 2 ≤ cp) (hcm : cp ≤ maxLen) (c0 : X.cell? ⟨g, 0, none⟩ = some (.int .i64 k0)) (c1 : X.cell? ⟨g, 1, none⟩ = some (.int .i64 n0)) (c2 : X.cell? ⟨g, 2, none⟩ = some (slv u0)) (c3 : X.cell? ⟨g, 3, none⟩ = some (.int .i64 k1)) (c4 : X.cell? ⟨g, 4, none⟩ = some (.int .i64 n1)) (c5 : X.cell? ⟨g, 5, none⟩ = some (slv u1)) (h0 : TyV X.heap.size X f0 (slv u0)) (h1 : TyV X.heap.size X f1 (slv u1)) : TyV X.heap.size X (.cons k0 n0 u0 f0 (.cons k1 n1 u1 f1 .nil)) (.slice (some ⟨g, 0, none⟩) 2 cp) :=
  tyV_cons.2 ⟨g, 0, cp, rfl, hcp, hcm, hg, tyC_cons.2 ⟨c0, c1, c2, h0, tyC_cons.2 ⟨c3, c4, c5, h1, tyC_nil⟩⟩⟩
theorem no_parts (B : Nat) (w : World) : TyV B w .nil (slv (none, 0, 0)) := tyV_nil.2 ⟨none, 0, rfl⟩
set_option maxRecDepth 100000 in
theorem var_any (n : Int) (w : World) : Calls Tryz.prog 29 #[.int .i64 n] w fun e w' => e = .returned (tyVal 1 n (.slice none 0 0)) ∧ Below w.heap.size w w' := by
  obtain ⟨w1, hw1⟩ : ∃ w1, w.alloc (.cells rt0 47) = w1 := ⟨_, rfl⟩
  have hb1 : Below w.heap.size w w1 := by rw [← hw1]; exact (Below.refl _ _).alloc (Nat.le_refl _) _
  have hx1 : w1.heap[w.heap.size]? = some (Obj.cells rt0 47) := by rw [← hw1]; exact heap_alloc_new w _
  obtain ⟨r0, r1, r2, z0, z1, z2, w2, hw2, hld, hsz, hfar, hbl⟩ := ret_cells (w := w1) w.heap.size 1 n (none, 0, 0) hx1
  have HLD := Lib.hid hld
  have HB := Lib.hid (hb1.trans hbl)
  unfold rt0 at hw1
  clear hld hfar hbl hb1 hx1
  dsimp only [slv] at hw2
  go_enter Tryz.func29, Tryz.ntmps29
  go_wp2
  refine bodyPost_ret (results_box rfl _ _ _ _ rfl HLD.out) rfl ?_
  exact ⟨rfl, HB.out⟩
end Go.Proofs.YtojgiienohpaiaaGreat
namespace Go.Proofs.YtojgiienohpaiaaGreat
open Go.RowKit
theorem own_below {w w' : World} {base : Nat} {e : TypeId} {size : Nat} {v : Value} {n : Nat} {xs : List Value} (h : w.ownsRow base e size v n xs) (hb : Below w.heap.size w w') : w'.ownsRow base e size v n xs := by
  refine ⟨h.1, ?_⟩
  rcases h.2 with h0 | ⟨g, cap, cur, h0, hbg, hg, hr⟩
  · exact .inl h0
  · exact .inr ⟨g, cap, cur, h0, hbg, (hb.block g (Array.getElem?_eq_some_iff.1 hg).1).trans hg, hr⟩
end Go.Proofs.YtojgiienohpaiaaGreat
namespace Go.Proofs.YtojgiienohpaiaaGreat
open Go.RowKit Go.Shelf
attribute [local go_sem] Oper.semAt_some

def allAlone (l : List Tr) : Bool := l.all fun x => alone x.1 x.2.1 x.2.2.2.1
theorem load_bool {w : World} {g : Nat} {b : Bool} (h : w.cell? ⟨g, 0, none⟩ = some (.bool b)) : (loadVar 4 ⟨g, 0, none⟩).run Tryz.prog w = .ok (.bool b) w := by
  go_simp
set_option maxRecDepth 100000 in
set_option maxHeartbeats 2000000 in
theorem right_any (w : World) (B : Nat) (k n : Int) (u : Sl) (ps : Fo) (hB : B ≤ w.heap.size) (hps : TyV B w ps (slv u)) (hs : ps.size < 1000000) :
    Calls Tryz.prog 49 #[tyVal k n (slv u)] w fun e w' => e = .returned (.bool (allAlone (Fo.cons k n u ps .nil).pre)) ∧ Below w.heap.size w w' := by
  obtain ⟨u1, u2, u3⟩ := u
  dsimp only [tyVal, slv] at hps ⊢
  refine (callsIn_wide (n := 4)).1 ?_
  refine callsIn_of_wp_marks Tryz.func49 rfl trivial ?_ rfl
  simp only [Tryz.ntmps49, List.size_toArray, List.length_cons, List.length_nil, Nat.reduceAdd, Nat.reduceSub, Array.replicate_succ, Array.replicate_zero, List.push_toArray, List.append_toArray, List.nil_append, List.cons_append]
  gi_wp2_with (refine ⟨trivial, ?_⟩; gi_at_call 63; refine (callsIn_wide.2 (all_make _ 1 1 _)).mono ?_; rintro e w' ⟨rfl, rfl⟩)
  obtain ⟨wa, hwa⟩ : ∃ wa, (w.alloc (Obj.cells #[.int .i64 k, .int .i64 n, .slice u1 u2 u3] 47)).alloc (Obj.cells #[.bool false] 4) = wa := ⟨_, rfl⟩
  have hsa : wa.heap.size = w.heap.size + 1 + 1 := by rw [← hwa]; simp
  have hba : Below w.heap.size w wa := by rw [← hwa]; exact ((Below.refl _ w).alloc (Nat.le_refl _) _).alloc (by simp) _
  have bz : Boxed wa (w.heap.size + 1) 4 (.bool false) := by
    rw [← hwa]
    have := Boxed.new (w.alloc (Obj.cells #[.int .i64 k, .int .i64 n, .slice u1 u2 u3] 47)) 4 (.bool false)
    rwa [World.size_alloc] at this
  obtain ⟨w4, hw4, hs4, hbx, hrd, hTL, hb4⟩ := one_laid (w := wa) (B := B) k n (u1, u2, u3) ps (by omega) (hps.below (hba.mono hB))
  dsimp only [slv] at hw4
  rw [hwa, ← hsa, hw4]
  have bz4 : Boxed w4 (w.heap.size + 1) 4 (.bool false) := (hb4.block _ (by omega)).trans bz
  have hb04 : Below w.heap.size w w4 := hba.trans (hb4.mono (by omega))
  have hf : (Fo.cons k n (u1, u2, u3) ps .nil).size = 1 + ps.size := by simp [Fo.size]
  refine wpIn_rangeC (by omega) (gf := 84) (lb := #[.pointer (some ⟨wa.heap.size + 1, 0, none⟩)]) rfl (enters_of Tryz.func84 (by kernel_rfl) rfl)
    (all_seq 3 (by omega) (wa.heap.size + 1) B _ (.cons k n (u1, u2, u3) ps .nil) (by omega) w4 (by omega) hbx hrd hTL) (Below.refl _ _) KpC.t (KpC.b (by omega)) (fun _ => rfl)
    (fun pre W => allAlone pre = true ∧ Boxed W (w.heap.size + 1) 4 (.bool false) ∧ Below w.heap.size w W) (fun c pre W => (c = .ret ∧ allAlone pre = false) ∧ Boxed W (w.heap.size + 1) 4 (.bool false) ∧ Below w.heap.size w W)
    (OwnFrom.and (ownFrom_pure _ _) (OwnFrom.and (Own.from (boxed_own _ _ (fun _ => .bool false)) _) (below_own (by omega) (Nat.le_refl _)))) (fun _ => OwnFrom.and (ownFrom_pure _ _) (OwnFrom.and (Own.from (boxed_own _ _ (fun _ => .bool false)) _) (below_own (by omega) (Nat.le_refl _))))
    (AbC.and AbC.pure (AbC.and (box_ab (by decide)) (below_ab (by omega) (Nat.le_refl _)))) (fun _ => AbC.and AbC.pure (AbC.and (box_ab (by decide)) (below_ab (by omega) (Nat.le_refl _))))
    ⟨rfl, bz4, hb04⟩
    (fun x a' W => ∃ Bx, (W.cell? ⟨Bx, 0, none⟩ = some (.int .i64 x.1) ∧ W.cell? ⟨Bx, 1, none⟩ = some (.int .i64 x.2.1) ∧ W.cell? ⟨Bx, 2, none⟩ = some (slv x.2.2)) ∧ a' = { tmps := #[tyVal k n (.slice u1 u2 u3), .pointer (some ⟨w.heap.size, 0, none⟩), .pointer (some ⟨w.heap.size + 1, 0, none⟩), .pointer (some ⟨Bx, 0, none⟩), tyVal k n (.slice u1 u2 u3), .slice (some ⟨wa.heap.size, 0, none⟩) 1 1, .func (.func 84) #[] #[.pointer (some ⟨wa.heap.size + 1, 0, none⟩)], trV x, undef, undef, undef], defers := [] })
    (fun x a' s W W' row hs hg hr => by
      obtain ⟨Bx, ⟨c0, c1, c2⟩, ha⟩ := hs
      exact ⟨Bx, ⟨cell_kept c0 hg (fun r e => (hr r e).2), cell_kept c1 hg (fun r e => (hr r e).2), cell_kept c2 hg (fun r e => (hr r e).2)⟩, ha⟩) ?assign ?body ?done ?stop
  case assign =>
    rintro l pre x W K ⟨hi1, hi2, hi3⟩ hK
    obtain ⟨x0, x1, A3, n3, c3⟩ := x
    dsimp only [trV, slv] at hK ⊢
    have hsz := hi3.size
    gi_wp2
    exact hK _ _ ((KeepsOthers.alloc _ _).from _) (KpC.of_below ((Below.refl _ _).alloc (Nat.le_refl _) _) (by omega)) ⟨hi1, hi2.alloc _, hi3.alloc hsz _⟩ ⟨W.heap.size, ⟨by go_simp, by go_simp, by go_simp⟩, by simp [tyVal]⟩
  case body =>
    rintro l pre x a' W hl ⟨hi1, hi2, hi3⟩ ⟨Bx, ⟨c0, c1, c2⟩, rfl⟩ hlt
    obtain ⟨x0, x1, A3, n3, c3⟩ := x
    dsimp only [trV, slv, tyVal] at c0 c1 c2 ⊢
    obtain ⟨b, hb⟩ : ∃ b, alone x0 x1 n3 = b := ⟨_, rfl⟩
    have FA := Lib.hid (alone_any x0 x1 A3 n3 c3 W)
    rw [hb] at FA
    have hap : allAlone (pre ++ [(x0, x1, A3, n3, c3)]) = b := by
      have : allAlone (pre ++ [(x0, x1, A3, n3, c3)]) = (allAlone pre && alone x0 x1 n3) := by simp [allAlone]
      rw [this, hi1, hb]; rfl
    have HAP := Lib.hid hap
    have HSZ := Lib.hid hi3.size
    have HS4 := Lib.hid hs4
    have HSA := Lib.hid hsa
    clear hap hb hf hs4 hsa hs
    cases b
    · gi_wp2_with (refine ⟨trivial, ?_⟩; gi_at_call 64; refine (CallsIn.inRound l (callsIn_wide.2 FA.out)).mono ?_; rintro e w' ⟨rfl, hbw⟩; have hi2' : Boxed w' (w.heap.size + 1) 4 (.bool false) := (hbw.block _ hi2.lt).trans hi2; have bc := hi2'.cell; have bf := hi2'.frozen; have HB2 := Lib.hid hi2'; clear hi2')
      refine ⟨⟨Nat.le_trans hbw.size (KeepsOthers.setCell w' _ _).size, fun j o _ hj ho => (KeepsOthers.setCell w' _ _).same j o ((hbw.block j (Array.getElem?_eq_some_iff.1 hj).1).trans hj) ho⟩, ⟨rfl, HAP.out⟩, HB2.out.set _, ?_⟩
      have hb1 : Below w.heap.size w w' := hi3.trans (hbw.mono HSZ.out)
      exact hb1.trans ((Below.refl _ _).grown (grownBy_setCell' w' (w.heap.size + 1) _) hb1.size (fun k e => by cases e; omega))
    · gi_wp2_with (refine ⟨trivial, ?_⟩; gi_at_call 64; refine (CallsIn.inRound l (callsIn_wide.2 FA.out)).mono ?_; rintro e w' ⟨rfl, hbw⟩)
      refine ⟨⟨hbw.size, fun j o _ hj _ => (hbw.block j (Array.getElem?_eq_some_iff.1 hj).1).trans hj⟩, KpC.of_below hbw (Nat.le_trans hB HSZ.out), HAP.out, (hbw.block _ hi2.lt).trans hi2, hi3.trans (hbw.mono HSZ.out)⟩
  case done =>
    rintro D ys W hD rfl ⟨hi1, hi2, hi3⟩ hK
    have bc := hi2.cell
    have bf := hi2.frozen
    have HB2 := Lib.hid hi2
    have HA := Lib.hid hi1
    clear hi2 hi1 hf
    gi_wp2
    have bx : Boxed ((W.setCell ⟨w.heap.size + 1, 0, none⟩ (.bool true)).putObj D (.deferred none)) (w.heap.size + 1) 4 (.bool true) := (HB2.out.set _).kept (grownBy_putObj' _ D (.deferred none)) (fun e => by cases e; omega)
    have hK' : (W.setCell ⟨w.heap.size + 1, 0, none⟩ (.bool true)).heap[D]? = some (.deferred (some [])) := ((grownBy_setCell' W (w.heap.size + 1) (.bool true)).block D (Array.getElem?_eq_some_iff.1 hK).1 (fun e => by cases e; omega)).trans hK
    refine ⟨by simp, .inl ⟨_, _, rfl, run_takeDeferred hK', ?_⟩⟩
    refine ⟨_, results_box rfl _ _ _ _ rfl (load_bool bx.cell), ?_, ?_⟩
    · rw [HA.out]
    · have h1 := hi3.trans ((Below.refl _ _).grown (grownBy_setCell' W (w.heap.size + 1) (.bool true)) hi3.size (fun k e => by cases e; omega))
      exact h1.trans ((Below.refl _ _).grown (grownBy_putObj' _ D (.deferred none)) h1.size (fun k e => by cases e; omega))
  case stop =>
    rintro D c pre W hD ⟨hne, s, hsp⟩ ⟨⟨rfl, hi1⟩, hi2, hi3⟩ hK
    gi_wp2
    have bx : Boxed (W.putObj D (.deferred none)) (w.heap.size + 1) 4 (.bool false) := hi2.kept (grownBy_putObj' _ D (.deferred none)) (fun e => by cases e; omega)
    refine ⟨by simp, .inl ⟨_, _, rfl, run_takeDeferred hK, ?_⟩⟩
    refine ⟨_, results_box rfl _ _ _ _ rfl (load_bool bx.cell), ?_, hi3.trans ((Below.refl _ _).grown (grownBy_putObj' _ D (.deferred none)) hi3.size (fun k e => by cases e; omega))⟩
    have : allAlone (pre ++ s) = false := by
      have h2 : allAlone (pre ++ s) = (allAlone pre && allAlone s) := by simp [allAlone]
      rw [h2, hi1]; rfl
    rw [← hsp, this]
def isVar (v : Int) (x : Tr) : Bool := x.1 == 1 && x.2.1 == v
end Go.Proofs.YtojgiienohpaiaaGreat
