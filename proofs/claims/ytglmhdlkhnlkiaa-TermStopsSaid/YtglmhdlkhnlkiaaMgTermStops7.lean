/- Texts of one proof, one behind the other. -/
import Derived.Test.YtglmhdlkhnlkiaaMgTermStops6
import Derived.Test.YtglmhdlkhnlkiaaMgTermStops2
import Derived.Test.YtglmhdlkhnlkiaaMgTermStops3
import Derived.Test.YtglmhdlkhnlkiaaMgTermStops4
import Derived.Test.YtglmhdlkhnlkiaaMgTermStops1
import Derived.Test.YtglmhdlkhnlkiaaMgTermStops5
/- term.inOrder's iterator: what stands between its rounds; a term pushed. -/
namespace Go.Proofs.Ytglmhdlkhnlkiaa
open Go.RowKit Go.Shelf

theorem teInfo : (Try.prog.info? 29).map (fun i => (i.zero, i.size, i.bytes)) = some (some (.agg #[.int .i64 0, .string ⟨#[]⟩, .int .i64 0, .int .i64 0, .int .i64 0, .slice none 0 0, .slice none 0 0, .int .i64 0, .int .i64 0]), 9, 112) := by kernel_rfl
theorem ndC_len (x : Nd) : (ndC x).length = 9 := rfl
theorem ndC_one (x : Nd) : ∀ u ∈ ndC x, u.oneCell' = true := by
  intro u hu
  simp only [ndC, List.mem_cons, List.not_mem_nil, or_false] at hu
  rcases hu with rfl | rfl | rfl | rfl | rfl | rfl | rfl | rfl | rfl <;> rfl
theorem ndCs_len {α : Type} (L : List α) (f : α → Nd) : (L.flatMap fun x => ndC (f x)).length = L.length * 9 := by
  induction L with
  | nil => rfl
  | cons x L ih => simp only [List.flatMap_cons, List.length_append, ndC_len, ih, List.length_cons]; omega
/-- The stack: the first term lies last. -/
def estk (R : Te) : List Value := R.top.reverse.flatMap fun t => ndC t.1
theorem estk_cons (x : Nd) (ps r : Te) : estk (.cons x ps r) = estk r ++ ndC x := by simp [estk, Te.top]
theorem estk_app (f r : Te) : estk (f.app r) = estk r ++ f.top.reverse.flatMap fun t => ndC t.1 := by simp [estk, Te.top_app]
theorem estk_len (R : Te) : (estk R).length = R.len * 9 := by rw [estk, ndCs_len]; simp [Te.top_len]
/-- A term's nine cells, stored. -/
def set9 (w : World) (g o : Nat) (x : Nd) : World := (((((((((w.setCell ⟨g, o, none⟩ (.int .i64 x.k)).setCell ⟨g, o + 1, none⟩ (.string x.s)).setCell ⟨g, o + 2, none⟩ (.int .i64 x.n)).setCell ⟨g, o + 3, none⟩ (.int .i64 x.tk)).setCell ⟨g, o + 4, none⟩ (.int .i64 x.tn)).setCell ⟨g, o + 5, none⟩ (slv x.tu)).setCell ⟨g, o + 6, none⟩ (slv x.u)).setCell ⟨g, o + 7, none⟩ (.int .i64 x.a)).setCell ⟨g, o + 8, none⟩ (.int .i64 x.b))
theorem set9_own {w1 : World} {base g cp k : Nat} {xs zs : List Value} (x : Nd) (hx : xs.length = k * 9) (hz : zs.length = 9)
    (h : w1.ownsRow base 29 9 (.slice (some ⟨g, 0, none⟩) (k + 1) cp) (k + 1) (xs ++ zs)) :
    (set9 w1 g (k * 9) x).ownsRow base 29 9 (.slice (some ⟨g, 0, none⟩) (k + 1) cp) (k + 1) (xs ++ ndC x) ∧ w1.grownBy (set9 w1 g (k * 9) x) (some g) := by
  obtain ⟨o1, g1⟩ := h.stored (k * 9) (.int .i64 x.k)
  obtain ⟨o2, g2⟩ := o1.stored (k * 9 + 1) (.string x.s)
  obtain ⟨o3, g3⟩ := o2.stored (k * 9 + 2) (.int .i64 x.n)
  obtain ⟨o4, g4⟩ := o3.stored (k * 9 + 3) (.int .i64 x.tk)
  obtain ⟨o5, g5⟩ := o4.stored (k * 9 + 4) (.int .i64 x.tn)
  obtain ⟨o6, g6⟩ := o5.stored (k * 9 + 5) (slv x.tu)
  obtain ⟨o7, g7⟩ := o6.stored (k * 9 + 6) (slv x.u)
  obtain ⟨o8, g8⟩ := o7.stored (k * 9 + 7) (.int .i64 x.a)
  obtain ⟨o9, g9⟩ := o8.stored (k * 9 + 8) (.int .i64 x.b)
  refine ⟨?_, (((((((g1.trans g2).trans g3).trans g4).trans g5).trans g6).trans g7).trans g8).trans g9⟩
  unfold set9
  match zs, hz with
  | [z0, z1, z2, z3, z4, z5, z6, z7, z8], _ =>
    refine (congrArg (World.ownsRow _ base _ 9 _ _) ?_).mp o9
    rw [← hx]
    simp [ndC]
theorem row_not' {w : World} {base : Nat} {e T : TypeId} {size : Nat} {v : Value} {n : Nat} {xs : List Value} (h : w.ownsRow base e size v n xs) (hne : e ≠ T) : ∀ (r : Nat), v.ownBlock = some r → ∀ (cs : Array Value), w.heap[r]? ≠ some (Obj.cells cs T) := by
  intro r hr cs hc
  rcases h.2 with ⟨rfl, _⟩ | ⟨g, cap, cur, rfl, _, hg, _⟩
  · cases hr
  · obtain rfl : g = r := by simpa [Value.ownBlock] using hr
    rw [hg] at hc
    injection hc with hc
    injection hc with _ h2 _
    exact hne h2
/-- What has been pushed so far. -/
def PushI (W5 : World) (base bt : Nat) (v5 : Value) (T : List Value) (m : Nat) (pre : List (Int × Tm)) (W6 : World) : Prop :=
  (∃ vt, Boxed W6 bt 25 vt ∧ W6.ownsRow base 29 9 vt (m + pre.length) (T ++ pre.flatMap fun x => ndC x.2.1) ∧ (∀ g, vt.ownBlock = some g → v5.ownBlock = some g ∨ W5.heap.size ≤ g)) ∧
    Stp (fun k => k = bt ∨ v5.ownBlock = some k) W5 W6
theorem PushI.own {W5 : World} {base bt : Nat} {v5 : Value} {T : List Value} {m : Nat} : OwnFrom W5.heap.size (PushI W5 base bt v5 T m) := by
  refine OwnFrom.and (Own.from (holdsRow_own base bt _ _ 9 (fun pre : List (Int × Tm) => m + pre.length) (fun pre => T ++ pre.flatMap fun x => ndC x.2.1) (fun _ v => ∀ g, v.ownBlock = some g → v5.ownBlock = some g ∨ W5.heap.size ≤ g)) _) ?_
  intro s W W' row hs hg hr
  refine ⟨hg.os.trans hs.os, hg.tape.trans hs.tape, hg.output.trans hs.output, Nat.le_trans hs.size hg.size, fun k hk hne => ?_⟩
  exact (hg.block k (Nat.lt_of_lt_of_le hk hs.size) fun e => by have := (hr k e.symm).1; omega).trans (hs.block k hk hne)
/-- What a round of the pushing does, put together. -/
theorem push_fin {W5 W6 W' : World} {base B bt Bs g cp k m : Nat} {T : List Value} {vL v5 : Value} {Av : Option Addr} {cv : Nat} {pre : List (Int × Tm)} (x : Int × Tm)
    (hk : m + pre.length = k) (hBb : B ≤ base) (hbt : B ≤ bt) (hbt5 : bt < W5.heap.size) (hBsb : Bs ≠ bt) (hbs : Boxed W5 Bs 25 vL) (hv5 : v5.ownBlock ≠ some Bs)
    (hbox : Boxed W6 bt 25 (.slice Av k cv)) (hown : W6.ownsRow base 29 9 (.slice Av k cv) k (T ++ pre.flatMap fun x => ndC x.2.1)) (hrow : ∀ g, (Value.slice Av k cv).ownBlock = some g → v5.ownBlock = some g ∨ W5.heap.size ≤ g)
    (hst : Stp (fun k => k = bt ∨ v5.ownBlock = some k) W5 W6)
    (hat : (Value.slice (some ⟨g, 0, none⟩) (k + 1) cp).ownBlock = (Value.slice Av k cv).ownBlock ∨ W6.heap.size ≤ g)
    (hown' : W'.ownsRow base 29 9 (.slice (some ⟨g, 0, none⟩) (k + 1) cp) (k + 1) ((T ++ pre.flatMap fun x => ndC x.2.1) ++ ndC x.2.1)) (hbox' : Boxed W' bt 25 (.slice (some ⟨g, 0, none⟩) (k + 1) cp))
    (hos : W'.os = W6.os) (htp : W'.tape = W6.tape) (hout : W'.output = W6.output) (hsz : W6.heap.size ≤ W'.heap.size)
    (hWW : ∀ j, j < W6.heap.size → some j ≠ (Value.slice Av k cv).ownBlock → j ≠ bt → W'.heap[j]? = W6.heap[j]?) :
    KeepsFrom W5.heap.size W6 W' ∧ KpB B Bs W6 W' ∧ PushI W5 base bt v5 T m (pre ++ [x]) W' := by
  have h56 := hst.size
  have hrb : ∀ j, (Value.slice Av k cv).ownBlock = some j → base ≤ j := fun j h => (hown.lt j h).1
  have hBs6 : Boxed W6 Bs 25 vL := (hst.block Bs hbs.lt (by rintro (h | h); exact hBsb h; exact hv5 h)).trans hbs
  refine ⟨⟨hsz, fun j o hj ho hc => ?_⟩, ⟨⟨hos, htp, hout, hsz, fun j hj => ?_⟩, fun o ho hc => ?_⟩, ⟨.slice (some ⟨g, 0, none⟩) (k + 1) cp, hbox', ?_, ?_⟩, ⟨hos.trans hst.os, htp.trans hst.tape, hout.trans hst.output, Nat.le_trans h56 hsz, fun j hj hne => ?_⟩⟩
  · refine (hWW j (Array.getElem?_eq_some_iff.1 ho).1 (fun e => ?_) (fun e => ?_)).trans ho
    · rcases hown.2 with ⟨h1, _⟩ | ⟨g', cap, cur, h1, _, h2, _⟩
      · rw [h1] at e; cases e
      · rw [h1] at e
        obtain rfl : j = g' := by simpa [Value.ownBlock] using e
        rw [h2] at ho; cases ho; cases hc
    · subst e
      rw [show W6.heap[j]? = _ from hbox] at ho; cases ho; cases hc
  · refine hWW j (by omega) (fun e => ?_) (by omega)
    have := hrb j e.symm
    omega
  · refine (hWW Bs hBs6.lt (fun e => ?_) hBsb).trans ho
    exact row_not' hown (by decide) Bs e.symm _ hBs6
  · have e : m + (pre ++ [x]).length = k + 1 := by simp; omega
    have e2 : (T ++ (pre ++ [x]).flatMap fun x => ndC x.2.1) = (T ++ pre.flatMap fun x => ndC x.2.1) ++ ndC x.2.1 := by simp
    rw [e, e2]; exact hown'
  · intro j hj
    rcases hat with h | h
    · exact hrow j (h ▸ hj)
    · obtain rfl : g = j := by simpa [Value.ownBlock] using hj
      exact .inr (by omega)
  · refine (hWW j (by omega) (fun e => ?_) (fun e => hne (.inl e))).trans (hst.block j hj hne)
    rcases hrow j e.symm with h | h
    · exact hne (.inr h)
    · omega
end Go.Proofs.Ytglmhdlkhnlkiaa
/- The answer's Depth. -/
namespace Go.Proofs.Ytglmhdlkhnlkiaa
open Go.RowKit

namespace Fo
theorem depth_app (f g : Fo) : (f.app g).depth = max f.depth g.depth := by
  induction f with
  | nil => simp [app, depth]
  | cons k n u ps r _ ih => simp [app, depth, ih] <;> omega
theorem depth_le_size (f : Fo) : f.depth ≤ f.size := by
  induction f with
  | nil => simp [depth]
  | cons k n u ps r ih1 ih2 => simp only [depth, size]; omega
theorem depth_take_step (f : Fo) (j : Nat) (hj : j < f.len) : (f.take (j + 1)).depth = max (f.take j).depth (1 + (f.at_ j).2.2.2.depth) := by
  rw [take_step f j hj, depth_app]
  simp [depth]
theorem depth_take_le (f : Fo) (j : Nat) : (f.take j).depth ≤ f.depth := by
  induction f generalizing j with
  | nil => cases j <;> simp [take]
  | cons k n u ps r _ ih =>
    cases j with
    | zero => simp [take, depth]
    | succ j => have := ih j; simp only [take, depth]; omega
end Fo
end Go.Proofs.Ytglmhdlkhnlkiaa
/- types.Depth: level by level: the plain facts. -/
namespace Go.Proofs.Ytglmhdlkhnlkiaa
open Go.RowKit
namespace Fo
/-- The parts of a list's types, one behind the other. -/
def kids : Fo → Fo
  | nil => nil
  | cons _ _ _ ps r => ps.app r.kids
theorem kids_app (f g : Fo) : (f.app g).kids = f.kids.app g.kids := by
  induction f with
  | nil => rfl
  | cons k n u ps r _ ih => simp [app, kids, ih, app_assoc]
theorem size_kids (f : Fo) : f.size = f.len + f.kids.size := by
  induction f with
  | nil => rfl
  | cons k n u ps r _ ih => simp only [size, len, kids, size_app]; omega
theorem depth_kids (f : Fo) : (f.len = 0 → f.depth = 0) ∧ (0 < f.len → f.depth = 1 + f.kids.depth) := by
  induction f with
  | nil => exact ⟨fun _ => rfl, fun h => absurd h (Nat.lt_irrefl 0)⟩
  | cons k n u ps r _ ih =>
    refine ⟨fun h => by simp [len] at h, fun _ => ?_⟩
    simp only [depth, kids, depth_app]
    rcases Nat.eq_zero_or_pos r.len with h0 | h0
    · have h1 := ih.1 h0
      have h2 : r.kids.depth = 0 := by
        cases r with
        | nil => rfl
        | cons => simp [len] at h0
      omega
    · have h1 := ih.2 h0
      omega
theorem kids_take (f : Fo) (j : Nat) (hj : j < f.len) : (f.take (j + 1)).kids = (f.take j).kids.app (f.at_ j).2.2.2 := by
  rw [take_step f j hj, kids_app]
  simp [kids, app_nil]
end Fo
theorem TyL.kids {B : Nat} {w : World} {f : Fo} (h : TyL B w f) : TyL B w f.kids := by
  induction f with
  | nil => trivial
  | cons _ _ _ ps r _ ih => exact (h.1.list).app (ih h.2)
/-- A slice of types reads as its cells. -/
theorem TyV.rd3 {B : Nat} {w : World} {f : Fo} {v : Value} (hB : B ≤ w.heap.size) (h : TyV B w f v) : Rd w 3 v f.len (f.top.flatMap trC) := by
  refine ⟨by rw [trC_len, Fo.top_len], ?_⟩
  rcases Nat.eq_zero_or_pos f.len with h0 | h0
  · obtain ⟨A, c, hv⟩ := h.slice
    exact .inl ⟨h0, A, c, by rw [hv, h0]⟩
  · obtain ⟨b, off, cap, hv, h1, h2, h3, hC⟩ := h.form h0
    refine .inr ⟨b, off, cap, hv, h1, h2, by omega, ?_⟩
    clear hv h1 h2 h0 h
    induction f generalizing off with
    | nil => intro j u hu; simp [Fo.top] at hu
    | cons k n u ps r _ ih =>
      obtain ⟨c0, c1, c2, _, hr⟩ := tyC_cons.1 hC
      intro j x hx
      simp only [Fo.top, List.flatMap_cons, trC, List.cons_append, List.nil_append] at hx
      match j, hx with
      | 0, hx => simp at hx; subst hx; exact c0
      | 1, hx => simp at hx; subst hx; exact c1
      | 2, hx => simp at hx; subst hx; exact c2
      | j + 3, hx =>
        simp only [List.getElem?_cons_succ] at hx
        have := ih (off + 3) hr j x hx
        rwa [show off + (j + 3) = off + 3 + j by omega]
end Go.Proofs.Ytglmhdlkhnlkiaa
/- term.Copy: what lies in memory between the rounds. -/
namespace Go.Proofs.Ytglmhdlkhnlkiaa
open Go.RowKit

theorem flat9 (L : List Tm) (i j : Nat) (hj : j < 9) : (L.flatMap fun t => ndC t.1)[i * 9 + j]? = (L[i]?).bind fun t => (ndC t.1)[j]? := by
  induction L generalizing i with
  | nil => simp
  | cons t L ih =>
    cases i with
    | zero => rw [List.flatMap_cons, Nat.zero_mul, Nat.zero_add, List.getElem?_append_left (by rw [ndC_len]; omega)]; rfl
    | succ i =>
      rw [List.flatMap_cons, List.getElem?_append_right (by rw [ndC_len]; omega), ndC_len, show (i + 1) * 9 + j - 9 = i * 9 + j by omega, ih i]
      simp
theorem TeV.rd9 {B : Nat} {w : World} {f : Te} {v : Value} (hB : B ≤ w.heap.size) (h : TeV B w f v) : Rd w 9 v f.len (f.top.flatMap fun t => ndC t.1) := by
  refine ⟨by rw [ndCs_len, Te.top_len], ?_⟩
  cases f with
  | nil =>
    obtain ⟨A, c, rfl⟩ := teV_nil.1 h
    exact .inl ⟨rfl, A, c, rfl⟩
  | cons x ps r =>
    obtain ⟨b, off, cap, rfl, h1, h2, hb, hc⟩ := teV_cons.1 h
    refine .inr ⟨b, off, cap, rfl, h1, h2, by omega, fun j u hj => ?_⟩
    obtain ⟨i, q, rfl, hq⟩ : ∃ i q, j = i * 9 + q ∧ q < 9 := ⟨j / 9, j % 9, by omega, by omega⟩
    rw [flat9 _ _ _ hq] at hj
    obtain ⟨t, ht, hu⟩ := Option.bind_eq_some_iff.1 hj
    obtain ⟨hi, rfl⟩ := List.getElem?_eq_some_iff.1 ht
    have := NdAt.cells (teC_rd hc i hi) q u hu
    rwa [← Nat.add_assoc]
/-- A hole, in a world. -/
def EHoleAt (T : TypeId) (rt B : Nat) (w : World) (h : EHole) : Prop := B ≤ h.b ∧ isT T rt w h.b ∧ NdAt w h.b h.off h.x ∧ TmL B w (h.x, h.ps) ∧ h.x.ty.size < 1000000 ∧ h.ps.tyb
def eptrs (Hs : List EHole) : List Value := Hs.map fun h => .pointer (some ⟨h.b, h.off, none⟩)
theorem eptrs_len (Hs : List EHole) : (eptrs Hs).length = Hs.length := by simp [eptrs]
theorem eptrs_app (a b : List EHole) : eptrs (a ++ b) = eptrs a ++ eptrs b := by simp [eptrs]
/-- A term's cells, new. -/
def ert0 : Array Value := #[.int .i64 0, .string ⟨#[]⟩, .int .i64 0, .int .i64 0, .int .i64 0, .slice none 0 0, .slice none 0 0, .int .i64 0, .int .i64 0]
/-- Between two rounds. -/
def ECh (T29 T24 P : TypeId) (w0 : World) (rt rb : Nat) (x : Nd) (ps : Te) (t : Value) (w : World) (s : Nat) : Prop :=
  ∃ Hs : List EHole, eleft Hs = s ∧ s ≤ 1000000 ∧ w.ownsRow w0.heap.size P 1 t Hs.length (eptrs Hs) ∧ (∀ h ∈ Hs, EHoleAt T29 rt w0.heap.size w h) ∧ Hs.Pairwise EApart ∧
    EWand T29 T24 rt w0.heap.size rb x ps w Hs ∧ Below w0.heap.size w0 w ∧ w.heap[rt]? = some (Obj.cells ert0 T29) ∧ w0.heap.size ≤ rt ∧ isT T29 rt w rb
/-- What a step touches: a hole's cells alone (and what is no block of terms or types). -/
structure ETch (T29 T24 : TypeId) (rt B : Nat) (h : EHole) (w w' : World) : Prop where
  below : Below B w w'
  kept : ∀ b, Go.Proofs.Ytglmhdlkhnlkiaa.isT T29 rt w b → Go.Proofs.Ytglmhdlkhnlkiaa.isT T29 rt w' b
  cell : ∀ b off, Go.Proofs.Ytglmhdlkhnlkiaa.isT T29 rt w b → EAside [h] b off → w'.cell? ⟨b, off, none⟩ = w.cell? ⟨b, off, none⟩
  rt : ∀ cs, w.heap[rt]? = some (Obj.cells cs T29) → w'.heap[rt]? = some (Obj.cells cs T29)
  ty : ∀ (b : Nat) (cs : Array Value), w.heap[b]? = some (Obj.cells cs T24) → w'.heap[b]? = some (Obj.cells cs T24)
theorem ETch.refl (T29 T24 : TypeId) (rt B : Nat) (h : EHole) (w : World) : ETch T29 T24 rt B h w w := ⟨Below.refl _ _, fun _ h => h, fun _ _ _ _ => rfl, fun _ h => h, fun _ _ h => h⟩
theorem ETch.trans {T29 T24 : TypeId} {rt B : Nat} {h : EHole} {a b c : World} (x : ETch T29 T24 rt B h a b) (y : ETch T29 T24 rt B h b c) : ETch T29 T24 rt B h a c :=
  ⟨x.below.trans y.below, fun i hi => y.kept i (x.kept i hi), fun i off hi ha => (y.cell i off (x.kept i hi) ha).trans (x.cell i off hi ha), fun cs h => y.rt cs (x.rt cs h), fun i cs hi => y.ty i cs (x.ty i cs hi)⟩
theorem ETch.keep {T29 T24 : TypeId} {rt B : Nat} {h : EHole} {a b : World} (k : KeepT T29 a b) (k2 : KeepT T24 a b) (hb : Below B a b) : ETch T29 T24 rt B h a b :=
  ⟨hb, fun _ hi => k.isT hi, fun _ off hi _ => k.cell hi off, fun _ hc => k.2 _ _ hc, k2.2⟩
theorem KeepT.of_below {T : TypeId} {a b : World} (h : Below a.heap.size a b) : KeepT T a b := ⟨h.size, fun i _ hi => (h.block i (Array.getElem?_eq_some_iff.1 hi).1).trans hi⟩
theorem ETch.of_below {T29 T24 : TypeId} {rt B : Nat} {h : EHole} {a b : World} (hb : Below a.heap.size a b) (hB : B ≤ a.heap.size) : ETch T29 T24 rt B h a b := ETch.keep (KeepT.of_below hb) (KeepT.of_below hb) (hb.mono hB)
theorem ETch.set {T29 T24 : TypeId} {rt B : Nat} {h : EHole} {w : World} (hne : T29 ≠ T24) (j : Nat) (hj : j < 9) (hT : Go.Proofs.Ytglmhdlkhnlkiaa.isT T29 rt w h.b) (hB : B ≤ h.b) (v : Value) : ETch T29 T24 rt B h w (w.setCell ⟨h.b, h.off + j, none⟩ v) := by
  obtain ⟨hner, cs, hc⟩ := hT
  refine ⟨(Below.refl B w).setCell (p := ⟨h.b, h.off + j, none⟩) hB v, fun b ⟨hb, cs2, hc2⟩ => ⟨hb, ?_⟩, fun b off _ ha => ?_, fun cs2 hc2 => ?_, fun b cs2 hc2 => ?_⟩
  · by_cases e : b = h.b
    · subst e; exact ⟨_, heap_setCell_same w _ _ cs T29 v hc⟩
    · exact ⟨cs2, (Below.heap_setCell _ _ _ _ e).trans hc2⟩
  · refine World.cell?_setCell_other _ _ _ _ ?_
    intro e
    injection e with e1 e2
    rcases ha h (List.mem_singleton.2 rfl) e1 with h' | h' <;> omega
  · exact (Below.heap_setCell _ _ _ _ (fun e => hner e.symm)).trans hc2
  · refine (Below.heap_setCell _ _ _ _ (fun e => ?_)).trans hc2
    simp only at e
    rw [e, hc] at hc2
    injection hc2 with hc2
    injection hc2 with _ h2 _
    exact hne h2
theorem eown_touch {T e : TypeId} {w : World} {b base size n : Nat} {v : Value} {xs : List Value} (ho : w.ownsRow base e size v n xs) (hT : ∃ cs, w.heap[b]? = some (Obj.cells cs T)) (hne : e ≠ T) (off : Nat) (u : Value) : (w.setCell ⟨b, off, none⟩ u).ownsRow base e size v n xs := by
  obtain ⟨cs, hc⟩ := hT
  refine ho.kept (row := some b) ⟨rfl, rfl, rfl, by simp [World.setCell], fun k _ hk => Below.heap_setCell _ _ _ k (fun e => hk (by rw [e]))⟩ (.inr fun e => ?_)
  exact row_not ho hne _ e cs hc
theorem eholes_at {T : TypeId} {rt B c : Nat} {w : World} (hB : B ≤ c) (hT : Go.Proofs.Ytglmhdlkhnlkiaa.isT T rt w c) (f : Te) (off : Nat) (hc : ∀ j u, (f.top.flatMap fun t => ndC t.1)[j]? = some u → w.cell? ⟨c, off + j, none⟩ = some u) (hL : TeL B w f) (hy : f.tyb) : ∀ h ∈ eholesOf c off f, EHoleAt T rt B w h := by
  induction f generalizing off with
  | nil => intro h hh; simp [eholesOf] at hh
  | cons x ps r _ ih =>
    intro h hh
    simp only [eholesOf, List.mem_cons] at hh
    simp only [Te.top, List.flatMap_cons] at hc
    rcases hh with rfl | hh
    · refine ⟨hB, hT, NdAt.of_cells fun j u hu => hc j u ?_, hL.1, hy.1, hy.2.1⟩
      rw [List.getElem?_append_left (List.getElem?_eq_some_iff.1 hu).1]
      exact hu
    · refine ih (off + 9) (fun j y hy => ?_) hL.2 hy.2.2 h hh
      rw [Nat.add_assoc, Nat.add_comm 9 j]
      refine hc (j + 9) y ?_
      rw [List.getElem?_append_right (by rw [ndC_len]; omega), ndC_len, Nat.add_sub_cancel]
      exact hy
/-- A round, put together. -/
theorem ech_step {T29 T24 P : TypeId} {w : World} {rt rb : Nat} {x : Nd} {ps : Te} {wr w5 : World} {Hq : List EHole} {h : EHole} {t5 : Value} {c m : Nat} {tu2 u2 : Sl}
    (hat : ∀ x ∈ Hq ++ [h], EHoleAt T29 rt w.heap.size wr x) (hap : (Hq ++ [h]).Pairwise EApart) (hwd : EWand T29 T24 rt w.heap.size rb x ps wr (Hq ++ [h])) (hb : Below w.heap.size w wr) (hrt : wr.heap[rt]? = some (Obj.cells ert0 T29)) (hrt2 : w.heap.size ≤ rt) (hrb : Go.Proofs.Ytglmhdlkhnlkiaa.isT T29 rt wr rb)
    (hsm : eleft (Hq ++ [h]) ≤ 1000000) (t : ETch T29 T24 rt w.heap.size h wr w5) (hm : h.ps.len = m) (hc : wr.heap.size ≤ c)
    (hat2 : NdAt w5 h.b h.off { h.x with tu := tu2, u := u2 }) (hty : FreshT T24 w.heap.size w5 idn h.x.ty tu2)
    (hu : (m = 0 ∧ ∃ A cp, u2 = (A, 0, cp)) ∨ (0 < m ∧ (∃ cs, w5.heap[c]? = some (Obj.cells cs T29)) ∧ (∀ j u, (h.ps.top.flatMap fun t => ndC t.1)[j]? = some u → w5.cell? ⟨c, j, none⟩ = some u) ∧ ∃ cp, u2 = (some ⟨c, 0, none⟩, m, cp) ∧ m ≤ cp ∧ cp ≤ maxLen))
    (hown : w5.ownsRow w.heap.size P 1 t5 (Hq.length + m) (eptrs Hq ++ eptrs (eholesOf c 0 h.ps))) : ECh T29 T24 P w rt rb x ps t5 w5 (eleft Hq + h.ps.size) := by
  subst hm
  obtain ⟨hbB, hT, _, hv, _, hty3⟩ := hat h (List.mem_append_right _ (List.mem_singleton.2 rfl))
  have hrl : rt < wr.heap.size := (Array.getElem?_eq_some_iff.1 hrt).1
  have hpa : ∀ x ∈ Hq, EApart x h := by
    intro x hx
    exact (List.pairwise_append.1 hap).2.2 x hx h (List.mem_singleton.2 rfl)
  have hlt : ∀ x ∈ Hq, x.b < wr.heap.size := fun x hx => (hat x (List.mem_append_left _ hx)).2.1.lt
  refine ⟨Hq ++ eholesOf c 0 h.ps, by rw [eleft_app, eleft_holes], ?_, by rw [List.length_append, eholesOf_len, eptrs_app]; exact hown, ?_, ?_, ?_, hb.trans t.below, t.rt _ hrt, hrt2, t.kept _ hrb⟩
  · rw [eleft_app] at hsm
    simp only [eleft, List.map_cons, List.map_nil, List.sum_cons, List.sum_nil] at hsm ⊢
    omega
  · intro x hx
    rcases List.mem_append.1 hx with hx | hx
    · obtain ⟨xB, xT, xn, xv, xt⟩ := hat x (List.mem_append_left _ hx)
      have ha : ∀ j, j < 9 → EAside [h] x.b (x.off + j) := by
        intro j hj y hy hyb
        have hyh : y = h := by simpa using hy
        rw [hyh] at hyb ⊢
        rcases hpa x hx hyb.symm with h' | h'
        · exact .inl (by omega)
        · exact .inr (by omega)
      exact ⟨xB, t.kept _ xT, xn.to fun j hj => t.cell _ _ xT (ha j hj), xv.below t.below, xt⟩
    · rcases hu with ⟨h0, _⟩ | ⟨_, hcT, hcc, _⟩
      · exfalso
        have := eholesOf_len c 0 h.ps
        rw [h0] at this
        rw [List.eq_nil_of_length_eq_zero this] at hx
        cases hx
      · exact eholes_at (Nat.le_trans hb.size hc) ⟨by omega, hcT⟩ h.ps 0 (fun j u hj => by rw [Nat.zero_add]; exact hcc j u hj) (hv.2.list.below t.below) hty3 x hx
  · refine List.pairwise_append.2 ⟨(List.pairwise_append.1 hap).1, eholesOf_apart _ _ _, fun x hx y hy e => ?_⟩
    have := hlt x hx
    have := (eholesOf_b hy).1
    omega
  · refine hwd.step hpa hbB hT t.below.size (fun b off _ hbT => ⟨t.kept b hbT, fun ha => t.cell b off hbT ha⟩) (fun b cs _ hl => t.ty b cs hl) hat2 hty hc ?_
    rcases hu with h0 | ⟨hp, ⟨cs, hcs⟩, _, cp, e, h1, h2⟩
    · exact .inl h0
    · exact .inr ⟨hp, (Array.getElem?_eq_some_iff.1 hcs).1, cp, e, h1, h2⟩
theorem eptrs_take (c : Nat) (f : Te) (off j : Nat) (hj : j < f.len) : eptrs ((eholesOf c off f).take (j + 1)) = eptrs ((eholesOf c off f).take j) ++ [.pointer (some ⟨c, off + j * 9, none⟩)] := by
  induction f generalizing off j with
  | nil => simp [Te.len] at hj
  | cons x ps r _ ih =>
    cases j with
    | zero => simp [eholesOf, eptrs]
    | succ j =>
      have := ih (off + 9) j (by simp [Te.len] at hj; omega)
      simp only [eholesOf, List.take_succ_cons, eptrs, List.map_cons, List.cons_append] at this ⊢
      rw [this, show off + 9 + j * 9 = off + (j + 1) * 9 by omega]
/-- A term's copy: what its type and its parts hang on lies in blocks from B on, below M. -/
def FreshE (B : Nat) (w : World) (x : Nd) (ps : Te) (tu u : Sl) : Prop :=
  ∀ W : World, w.heap.size ≤ W.heap.size → (∀ (b : Nat) (o : Obj), B ≤ b → w.heap[b]? = some o → o.isCells = true → W.heap[b]? = some o) → ∃ ty g, Img idn x.ty ty ∧ TImg ps g ∧ TyV W.heap.size W ty (slv tu) ∧ TeV W.heap.size W g (slv u)
theorem FreshE.now {B : Nat} {w : World} {x : Nd} {ps : Te} {tu u : Sl} (h : FreshE B w x ps tu u) : ∃ ty g, Img idn x.ty ty ∧ TImg ps g ∧ TyV w.heap.size w ty (slv tu) ∧ TeV w.heap.size w g (slv u) := h w (Nat.le_refl _) fun _ _ _ h _ => h
end Go.Proofs.Ytglmhdlkhnlkiaa
/- A row of one's own stands behind what lays new blocks alone. -/
namespace Go.Proofs.Ytglmhdlkhnlkiaa
open Go.RowKit
theorem own_below {w w' : World} {base : Nat} {e : TypeId} {size : Nat} {v : Value} {n : Nat} {xs : List Value} (h : w.ownsRow base e size v n xs) (hb : Below w.heap.size w w') : w'.ownsRow base e size v n xs := by
  refine ⟨h.1, ?_⟩
  rcases h.2 with h0 | ⟨g, cap, cur, h0, hbg, hg, hr⟩
  · exact .inl h0
  · exact .inr ⟨g, cap, cur, h0, hbg, (hb.block g (Array.getElem?_eq_some_iff.1 hg).1).trans hg, hr⟩
end Go.Proofs.Ytglmhdlkhnlkiaa
