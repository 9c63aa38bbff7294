/- Texts of one proof, one behind the other. -/
import Derived.Test.YtglmhdlkhnlkiaaMgTermApplies2
import Derived.Test.YtglmhdlkhnlkiaaMgTermApplies4
/- A type that is copied, its variables' numbers changed: what lies still to be done (holes), and that the whole reads as it ought once they are done. Nothing here speaks of the program. -/
namespace Go.Proofs.Ytglmhdlkhnlkiaa
open Go.RowKit

/-- A place where a type still lies as it came. -/
structure Hole where
  b : Nat
  off : Nat
  k : Int
  n : Int
  u : Sl
  ps : Fo
/-- What becomes of a number. -/
def nm (num : Int → Int) (k n : Int) : Int := if k = 1 then num n else n
/-- The one is the other, its variables' numbers changed. -/
def Img (num : Int → Int) : Fo → Fo → Prop
  | .nil, .nil => True
  | .cons k n _ ps r, .cons k' n' _ ps' r' => k' = k ∧ n' = nm num k n ∧ Img num ps ps' ∧ Img num r r'
  | _, _ => False
theorem Img.len {num : Int → Int} {f g : Fo} (h : Img num f g) : g.len = f.len := by
  induction f generalizing g with
  | nil => cases g <;> simp_all [Img, Fo.len]
  | cons k n u ps r _ ih =>
    cases g with
    | nil => simp [Img] at h
    | cons k' n' u' ps' r' => simp only [Img] at h; simp only [Fo.len, ih h.2.2.2]
theorem Img.size {num : Int → Int} {f g : Fo} (h : Img num f g) : g.size = f.size := by
  induction f generalizing g with
  | nil => cases g <;> simp_all [Img, Fo.size]
  | cons k n u ps r ih1 ih =>
    cases g with
    | nil => simp [Img] at h
    | cons k' n' u' ps' r' => simp only [Img] at h; simp only [Fo.size, ih h.2.2.2, ih1 h.2.2.1]
/-- A type's three cells at a place, its parts behind. -/
def TyAt (W : World) (b off : Nat) (k n : Int) (g : Fo) : Prop :=
  W.cell? ⟨b, off, none⟩ = some (.int .i64 k) ∧ W.cell? ⟨b, off + 1, none⟩ = some (.int .i64 n) ∧ ∃ u : Sl, W.cell? ⟨b, off + 2, none⟩ = some (slv u) ∧ TyV W.heap.size W g (slv u)
/-- A block of types, but for the one at rt. -/
def isT (T : TypeId) (rt : Nat) (w : World) (b : Nat) : Prop := b ≠ rt ∧ ∃ cs, w.heap[b]? = some (Obj.cells cs T)
theorem isT.lt {T : TypeId} {rt : Nat} {w : World} {b : Nat} (h : isT T rt w b) : b < w.heap.size := by
  obtain ⟨_, cs, h⟩ := h
  exact (Array.getElem?_eq_some_iff.1 h).1
/-- Aside of some holes. -/
def Aside (Hs : List Hole) (b off : Nat) : Prop := ∀ h ∈ Hs, h.b = b → off < h.off ∨ h.off + 3 ≤ off
/-- Once the holes are done, the whole is. -/
def Wand (num : Int → Int) (T : TypeId) (rt : Nat) (B : Nat) (rb : Nat) (k n : Int) (ps : Fo) (w : World) (Hs : List Hole) : Prop :=
  ∀ W : World, w.heap.size ≤ W.heap.size → (∀ h ∈ Hs, ∃ g, Img num h.ps g ∧ TyAt W h.b h.off h.k (nm num h.k h.n) g) →
    (∀ b off, B ≤ b → isT T rt w b → Aside Hs b off → W.cell? ⟨b, off, none⟩ = w.cell? ⟨b, off, none⟩) → ∃ g, Img num ps g ∧ TyAt W rb 0 k (nm num k n) g
/-- The holes of a new list. -/
def holesOf (c : Nat) : Nat → Fo → List Hole
  | _, .nil => []
  | off, .cons k n u ps r => ⟨c, off, k, n, u, ps⟩ :: holesOf c (off + 3) r
theorem holesOf_len (c off : Nat) (f : Fo) : (holesOf c off f).length = f.len := by
  induction f generalizing off with
  | nil => rfl
  | cons k n u ps r _ ih => simp [holesOf, Fo.len, ih]
theorem holesOf_b {c off : Nat} {f : Fo} {h : Hole} (hm : h ∈ holesOf c off f) : h.b = c ∧ off ≤ h.off := by
  induction f generalizing off with
  | nil => simp [holesOf] at hm
  | cons k n u ps r _ ih =>
    simp only [holesOf, List.mem_cons] at hm
    rcases hm with rfl | hm
    · exact ⟨rfl, Nat.le_refl _⟩
    · have := ih hm; exact ⟨this.1, by omega⟩
/-- Apart. -/
def Apart (x y : Hole) : Prop := x.b = y.b → x.off + 3 ≤ y.off ∨ y.off + 3 ≤ x.off
theorem holesOf_apart (c off : Nat) (f : Fo) : (holesOf c off f).Pairwise Apart := by
  induction f generalizing off with
  | nil => exact List.Pairwise.nil
  | cons k n u ps r _ ih =>
    refine List.Pairwise.cons (fun h hm _ => .inl ?_) (ih (off + 3))
    exact (holesOf_b hm).2
/-- The sum of what is left. -/
def left_ (Hs : List Hole) : Nat := (Hs.map fun h => 1 + h.ps.size).sum
theorem left_app (a b : List Hole) : left_ (a ++ b) = left_ a + left_ b := by simp [left_]
theorem left_holes (c off : Nat) (f : Fo) : left_ (holesOf c off f) = f.size := by
  induction f generalizing off with
  | nil => rfl
  | cons k n u ps r _ ih => simp only [holesOf, left_, List.map_cons, List.sum_cons, Fo.size]; have := ih (off + 3); simp only [left_] at this; omega
theorem left_len (Hs : List Hole) : Hs.length ≤ left_ Hs := by
  induction Hs with
  | nil => simp [left_]
  | cons h l ih => simp only [left_, List.map_cons, List.sum_cons, List.length_cons] at ih ⊢; omega
theorem holes_read {num : Int → Int} {W : World} {c : Nat} (f : Fo) (off : Nat) (h : ∀ h ∈ holesOf c off f, ∃ g, Img num h.ps g ∧ TyAt W h.b h.off h.k (nm num h.k h.n) g) : ∃ G, Img num f G ∧ TyC W.heap.size W G c off := by
  induction f generalizing off with
  | nil => exact ⟨.nil, trivial, tyC_nil⟩
  | cons k n u ps r _ ih =>
    obtain ⟨G, hG, hC⟩ := ih (off + 3) (fun x hx => h x (by simp only [holesOf]; exact List.mem_cons_of_mem _ hx))
    obtain ⟨g, hg, c0, c1, u2, c2, hv⟩ := h ⟨c, off, k, n, u, ps⟩ (by simp only [holesOf]; exact List.mem_cons_self)
    exact ⟨.cons k (nm num k n) u2 g G, ⟨rfl, rfl, hg, hG⟩, tyC_cons.2 ⟨c0, c1, c2, hv, hC⟩⟩
theorem Wand.step {num : Int → Int} {T : TypeId} {rt : Nat} {B rb : Nat} {k n : Int} {ps : Fo} {w w2 : World} {Hs : List Hole} {h : Hole} (hW : Wand num T rt B rb k n ps w (Hs ++ [h]))
    (hap : ∀ x ∈ Hs, Apart x h) (hB : B ≤ h.b) (hT : isT T rt w h.b)
    (hs : w.heap.size ≤ w2.heap.size) (hk : ∀ b off, B ≤ b → isT T rt w b → isT T rt w2 b ∧ (Aside [h] b off → w2.cell? ⟨b, off, none⟩ = w.cell? ⟨b, off, none⟩))
    {u2 : Sl} (h0 : w2.cell? ⟨h.b, h.off, none⟩ = some (.int .i64 h.k)) (h1 : w2.cell? ⟨h.b, h.off + 1, none⟩ = some (.int .i64 (nm num h.k h.n))) (h2 : w2.cell? ⟨h.b, h.off + 2, none⟩ = some (slv u2))
    {c : Nat} (hc : w.heap.size ≤ c) (hu : (h.ps.len = 0 ∧ ∃ A cp, u2 = (A, 0, cp)) ∨ (0 < h.ps.len ∧ c < w2.heap.size ∧ ∃ cp, u2 = (some ⟨c, 0, none⟩, h.ps.len, cp) ∧ h.ps.len ≤ cp ∧ cp ≤ maxLen)) :
    Wand num T rt B rb k n ps w2 (Hs ++ holesOf c 0 h.ps) := by
  intro W hsz hdone hfr
  have out : ∀ b off, b < w.heap.size → Aside Hs b off → Aside (Hs ++ holesOf c 0 h.ps) b off := by
    intro b off hb ha x hx hxb
    rcases List.mem_append.1 hx with hx | hx
    · exact ha x hx hxb
    · have := (holesOf_b hx).1
      omega
  have inH : ∀ j, j < 3 → Aside Hs h.b (h.off + j) := by
    intro j hj x hx hxb
    rcases hap x hx hxb with h' | h'
    · exact .inr (by omega)
    · exact .inl (by omega)
  have hat : ∀ j, j < 3 → W.cell? ⟨h.b, h.off + j, none⟩ = w2.cell? ⟨h.b, h.off + j, none⟩ := fun j hj => hfr h.b _ hB (hk h.b 0 hB hT).1 (out _ _ hT.lt (inH j hj))
  refine hW W (Nat.le_trans hs hsz) ?_ ?_
  · intro x hx
    rcases List.mem_append.1 hx with hx | hx
    · exact hdone x (List.mem_append_left _ hx)
    · have hxh : x = h := by simpa using hx
      rw [hxh]
      obtain ⟨G, hG, hC⟩ := holes_read h.ps 0 (fun y hy => hdone y (List.mem_append_right _ hy))
      refine ⟨G, hG, (hat 0 (by omega)).trans h0, (hat 1 (by omega)).trans h1, u2, (hat 2 (by omega)).trans h2, ?_⟩
      have hGl := hG.len
      rcases hu with ⟨hz, A, cp, rfl⟩ | ⟨hp, hc2, cp, rfl, hcp, hcm⟩
      · cases G with
        | nil => exact tyV_nil.2 ⟨A, cp, rfl⟩
        | cons => simp only [Fo.len] at hGl; omega
      · cases G with
        | nil => simp only [Fo.len] at hGl; omega
        | cons k' n' u' ps' r' =>
          simp only [Fo.len] at hGl
          exact tyV_cons.2 ⟨c, 0, cp, by rw [hGl]; rfl, by omega, hcm, by omega, hC⟩
  · intro b off hb hbT ha
    have hA1 : Aside Hs b off := fun x hx => ha x (List.mem_append_left _ hx)
    have hA2 : Aside [h] b off := fun x hx => ha x (List.mem_append_right _ hx)
    rw [hfr b off hb (hk b off hb hbT).1 (out b off hbT.lt hA1)]
    exact (hk b off hb hbT).2 hA2
end Go.Proofs.Ytglmhdlkhnlkiaa
/- types.all's function: types and all that they are made of, each ahead of its parts. -/
namespace Go.Proofs.Ytglmhdlkhnlkiaa
open Go.RowKit Go.Shelf
attribute [local go_sem] Oper.semAt_some

/-- The least number of its kind. -/
noncomputable def least (p : Nat → Prop) : Nat := Classical.epsilon fun k => p k ∧ ∀ j, p j → k ≤ j
theorem least_of {p : Nat → Prop} {k : Nat} (h : p k) : p (least p) ∧ least p ≤ k := by
  have hex : ∃ k, p k ∧ ∀ j, p j → k ≤ j := by
    induction k using Nat.strongRecOn with
    | ind k ih =>
      by_cases hk : ∃ j, j < k ∧ p j
      · obtain ⟨j, hj, hp⟩ := hk
        exact ih j hj hp
      · exact ⟨k, h, fun j hp => Nat.le_of_not_lt fun hlt => hk ⟨j, hlt, hp⟩⟩
  have := Classical.epsilon_spec hex
  exact ⟨this.1, this.2 k h⟩
/-- Between two rounds: what is left lies on the stack. -/
def AllInv (W : World) (B : Nat) (f : Fo) (J : List Tr → World → Prop) (i : Value) (wr : World) (k : Nat) : Prop :=
  ∃ (R : Fo) (pre : List Tr), R.size = k ∧ wr.ownsRow W.heap.size 24 3 i R.len (stk R) ∧ TyL B wr R ∧ pre ++ R.pre = f.pre ∧ J pre wr ∧ Below B W wr ∧ W.heap.size ≤ wr.heap.size
set_option maxRecDepth 100000 in
set_option maxHeartbeats 2000000 in
theorem all1 (n_ : Nat) (hn : 1 ≤ n_) (l Bs B : Nat) (vl : Value) (f : Fo) (hf : f.size ≤ 1000000) (J Jx : List Tr → World → Prop) (W : World) (hB : B ≤ W.heap.size) 
    (hJ : AbC W.heap.size 24 J)
    (hY : ∀ pre x W, J pre W → pre.length < f.size → YieldAt Fence.wide (n_ - 1) Try.prog l #[trV x] W fun e W' =>
      (e = .returned (.bool true) ∧ J (pre ++ [x]) W' ∧ KpC B W W') ∨ (e = .returned (.bool false) ∧ Jx (pre ++ [x]) W'))
    (hBs : Boxed W Bs 22 vl) (hR : RdX W.heap.size W vl f.top) (hL0 : TyL B W f) (h0 : J [] W) :
    CallsIn Fence.wide n_ Try.prog 72 #[.func (.yield l) #[] #[], .pointer (some ⟨Bs, 0, none⟩)] W fun e W' => (∃ v, e = .returned v) ∧
      ((∃ ys : List Tr, ys = f.pre ∧ J ys W') ∨ (∃ pre, (pre ≠ [] ∧ ∃ s, pre ++ s = f.pre) ∧ Jx pre W')) := by
  refine callsIn_of_wp Try.func72 rfl trivial ?_ rfl
  simp only [Try.ntmps72, List.size_toArray, List.length_cons, List.length_nil, Nat.reduceAdd, Nat.reduceSub, Array.replicate_succ, Array.replicate_zero, List.push_toArray, List.append_toArray, List.nil_append, List.cons_append]
  have e00 : W.cell? ⟨Bs, 0, none⟩ = some vl := hBs.cell
  obtain ⟨A, c, hv, _⟩ := id hR
  have HBS := Lib.hid hBs
  have HV := Lib.hid hv
  clear hBs hv
  have own0 : W.ownsRow W.heap.size 24 3 (.slice none 0 0) 0 [] := ⟨rfl, .inl ⟨rfl, rfl⟩⟩
  gi_wp2_with (refine ⟨trivial, ?_⟩; gi_at_call 73)
  refine (callsIn_wide.2 (backs_any W W.heap.size W.heap.size (.slice none 0 0) vl [] 0 f.top own0 (Nat.le_refl _) (Nat.le_refl _) hR (by rw [Fo.top_len]; exact Nat.le_trans f.len_le_size hf) (by omega))).mono ?_
  rintro e w0 ⟨v0, rfl, hown0, hg0, _⟩
  have hinv : AllInv W B f J v0 w0 f.size := by
    refine ⟨f, [], rfl, ?_, hL0.below ((Below.refl _ _).grown hg0 hB (fun k e => by cases e)), rfl, hJ _ _ _ h0 ⟨_, hg0, fun r e => by cases e⟩, (Below.refl _ _).grown hg0 hB (fun k e => by cases e), hg0.size⟩
    simpa [stk, Fo.top_len] using hown0
  clear hown0 hg0 h0 own0
  gi_wp2
  gi_loopw [3] (fun i wr => ∃ k, AllInv W B f J i wr k) (fun i wr => least (AllInv W B f J i wr))
  case atStart => exact ⟨_, hinv⟩
  case round =>
    obtain ⟨k, hk⟩ := hrel
    obtain ⟨⟨R, pre, hRk, hown, hL, hpre, hJs, hb, hsz⟩, _⟩ := least_of hk
    have HM := Lib.hid hRk
    clear hRk hk
    have HP := Lib.hid hpre
    clear hpre
    cases R with
    | nil =>
      obtain ⟨A1, c1, rfl, _, _⟩ := own_form hown
      dsimp only [Fo.len]
      gi_wp2
      go_end0
      exact ⟨⟨_, rfl⟩, .inl ⟨pre, by simpa [Fo.pre] using HP.out, hJs⟩⟩
    | cons k n u ps r =>
      have hpl : pre.length < f.size := by
        have h2 := congrArg List.length HP.out
        rw [List.length_append, Fo.pre_len, Fo.pre_len] at h2
        simp only [Fo.size] at h2
        omega
      have hrs : r.len ≤ 1000000 := by
        have h2 := congrArg List.length HP.out
        rw [List.length_append, Fo.pre_len, Fo.pre_len] at h2
        simp only [Fo.size] at h2
        have := r.len_le_size
        omega
      dsimp only [Fo.len] at hown
      obtain ⟨g, cp, rfl, hg1, hg2⟩ := own_shape hown (by omega)
      rw [stk_cons] at hown
      have hsl := stk_len r
      obtain ⟨hps, hLr⟩ := hL
      obtain ⟨q, hq⟩ : ∃ q, r.len = q := ⟨_, rfl⟩
      rw [hq] at hown hsl hrs ⊢
      have c0 : wr.cell? ⟨g, q * 3, none⟩ = some (.int .i64 k) := by rw [hown.cellAt _ (by omega), List.getElem?_append_right (by omega), hsl]; simp [trC]
      have c1 : wr.cell? ⟨g, q * 3 + 1, none⟩ = some (.int .i64 n) := by rw [hown.cellAt _ (by omega), List.getElem?_append_right (by omega), hsl]; simp [trC]
      have c2 : wr.cell? ⟨g, q * 3 + 2, none⟩ = some (slv u) := by rw [hown.cellAt _ (by omega), List.getElem?_append_right (by omega), hsl]; simp [trC]
      obtain ⟨u1, u2, u3⟩ := u
      dsimp only [slv] at c2
      have HQ := Lib.hid hq
      have HS := Lib.hid hsl
      have HO := Lib.hid hown
      clear hq hsl hown
      obtain ⟨W1, hW1⟩ : ∃ W1, W1 = wr.alloc (.cells #[.int .i64 k, .int .i64 n, .slice u1 u2 u3] 24) := ⟨_, rfl⟩
      have hJ1 : J pre W1 := by rw [hW1]; exact hJ _ _ _ hJs ⟨none, World.grownBy_alloc wr _ none, fun r e => by cases e⟩
      obtain ⟨fn, tmps, assign, body, hy, hR2⟩ := hY pre (k, n, (u1, u2, u3)) W1 hJ1 hpl
      dsimp only [trV, slv] at hy
      rw [hW1] at hy hR2
      have HW1 := Lib.hid hW1
      clear hW1
      gi_wp2
      refine hR2.mono ?_
      rintro e W3 (⟨rfl, hJ3, hk3⟩ | ⟨rfl, hJx3⟩)
      · have hbx : W3.heap[wr.heap.size]? = some (Obj.cells #[.int .i64 k, .int .i64 n, .slice u1 u2 u3] 24) := hk3.kept _ _ (World.alloc_heap_new wr _)
        have x2 : W3.cell? ⟨wr.heap.size, 2, none⟩ = some (.slice u1 u2 u3) := by
          have := cell_of_row W3 wr.heap.size 2 _ _ (0, 0) hbx
          rw [this]; rfl
        have hb3 : Below B W W3 := hb.trans (((Below.refl B wr).alloc (by omega) _).trans hk3.below)
        have hs3 : W.heap.size ≤ W3.heap.size := by have := hk3.below.size; simp at this; omega
        have own3 : W3.ownsRow W.heap.size 24 3 (.slice (some ⟨g, 0, none⟩) q cp) q (stk r) := own_cut (hk3.own (HO.out.alloc _)) q (by omega) HS.out
        have hps3 : TyV B W3 ps (slv (u1, u2, u3)) := hps.below (((Below.refl B wr).alloc (by omega) _).trans hk3.below)
        have hLr3 : TyL B W3 r := hLr.below (((Below.refl B wr).alloc (by omega) _).trans hk3.below)
        have hpn : ps.len ≤ 1000000 := by
          have h2 := congrArg List.length HP.out
          rw [List.length_append, Fo.pre_len, Fo.pre_len] at h2
          simp only [Fo.size] at h2
          have := ps.len_le_size
          omega
        have hcp : q + 1 ≤ cp := by
          obtain ⟨_, _, hv, h1, _⟩ := own_form HO.out
          injection hv with _ _ h3
          omega
        have FB := Lib.hid ((callsIn_wide (n := n_ - 1)).2 (backs_any W3.drew W.heap.size B (.slice (some ⟨g, 0, none⟩) q cp) (.slice u1 u2 u3) (stk r) q ps.top own3.drew hB hs3 (hps3.below (Below.refl B W3).drew).rd (by rw [Fo.top_len]; exact hpn) (by omega)))
        have hz : decide ((q : Int) ≤ (cp : Int)) = true := by simp; omega
        have hz0 : (0 : Int) ≤ (q : Int) := by omega
        have fin : ∀ (v' : Value) (w' : World), w'.ownsRow W.heap.size 24 3 v' (q + ps.top.length) (stk r ++ ps.top.reverse.flatMap trC) → W3.drew.grownBy w' (some g) → AllInv W B f J v' w' (ps.app r).size := by
          intro v' w' hown' hgd
          have hg' : W3.grownBy w' (some g) := ⟨hgd.os, hgd.tape, hgd.output, hgd.size, hgd.block⟩
          obtain ⟨_, cap, cur, hv, _, hgo, _⟩ := own3.2.resolve_left (by rintro ⟨h, _⟩; cases h)
          injection hv with hv _ _
          injection hv with hv
          injection hv with hv
          subst hv
          have hgB : Below B W3 w' := (Below.refl _ _).grown hg' (by omega) (fun k e => by cases e; omega)
          refine ⟨ps.app r, pre ++ [(k, n, (u1, u2, u3))], rfl, ?_, (hps3.list.below hgB).app (hLr3.below hgB), ?_, hJ _ _ _ hJ3 ⟨_, hg', fun r e => by cases e; exact ⟨hg1, _, hgo⟩⟩, hb3.trans hgB, Nat.le_trans hs3 hg'.size⟩
          · rw [stk_app, Fo.len_app, HQ.out, ← Fo.top_len ps, Nat.add_comm]
            exact hown'
          · rw [← HP.out, List.append_assoc, Fo.pre_next]; rfl
        have FN := Lib.hid fin
        have hmix : Try.prog.follows Departure.mixedOrders = true := by kernel_rfl
        clear hbx own3 hps3 hLr3 hb3 fin
        gi_wp2
        gi_region_with_o (refine ⟨trivial, ?_⟩; gi_at_call 73; refine FB.out.mono ?_; rintro e w4 ⟨v4, rfl, hown4, hg4, _⟩)
        all_goals
          have hfin := FN.out v4 w4 hown4 hg4
          clear hown4 hg4
          go_simp
          gi_wp2
          go_roundw
          case rel => exact ⟨_, hfin⟩
          case measure =>
            refine Nat.lt_of_le_of_lt (least_of hfin).2 (Nat.lt_of_lt_of_le ?_ (Nat.le_of_eq (HQ.out ▸ HM.out)))
            rw [Fo.size_app]
            simp only [Fo.size]
            omega
      · gi_wp2
        refine bodyPost_ret (results_none rfl _ _ _) rfl ?_
        exact ⟨⟨_, rfl⟩, .inr ⟨_, ⟨by simp, _, by rw [List.append_assoc, ← HP.out]; rfl⟩, hJx3⟩⟩
/-- types.all: the list is boxed, the function that comes has the box. -/
theorem all_make (A : Option Addr) (n c : Nat) (w : World) :
    Calls Try.prog 66 #[.slice A n c] w fun e w' => e = .returned (.func (.func 72) #[] #[.pointer (some ⟨w.heap.size, 0, none⟩)]) ∧ w' = w.alloc (.cells #[.slice A n c] 22) := by
  go_enter Try.func66, Try.ntmps66
  go_wp2
  go_ret
  exact ⟨rfl, rfl⟩
theorem RdX.mono {B C : Nat} {w : World} {v : Value} {L : List Tr} (h : RdX B w v L) (hC : B ≤ C) : RdX C w v L := by
  obtain ⟨A, c, hv, h⟩ := h
  refine ⟨A, c, hv, fun hn => ?_⟩
  obtain ⟨b, off, hA, hlt, hc⟩ := h hn
  exact ⟨b, off, hA, by omega, hc⟩
/-- Its contract, as an iterator's. -/
theorem all_seq (n : Nat) (hn : 1 ≤ n) (Bs B : Nat) (vl : Value) (f : Fo) (hf : f.size ≤ 1000000) (w : World) (hB : B ≤ w.heap.size) (hBs : Boxed w Bs 22 vl) (hR : RdX w.heap.size w vl f.top) (hL : TyL B w f) :
    SeqC n Try.prog 72 #[.pointer (some ⟨Bs, 0, none⟩)] 24 (fun x : Tr => #[trV x]) (KpC B) (fun ys => ys = f.pre) (fun pre => pre ≠ [] ∧ ∃ s, pre ++ s = f.pre) f.size w := by
  intro l J Jx W hW hJ _ hY h0
  exact all1 n hn l Bs B vl f hf J Jx W (Nat.le_trans hB hW.size) hJ hY ((hW.block Bs hBs.lt).trans hBs) ((hR.below hW).mono hW.size) (hL.below (hW.mono hB)) h0
end Go.Proofs.Ytglmhdlkhnlkiaa
