/- Texts of one proof, one behind the other. -/
import Derived.Test.YtglmhdlkhnlkiaaMgTermApplies6
import Derived.Test.YtglmhdlkhnlkiaaMgTermApplies7
import Derived.Test.YtglmhdlkhnlkiaaMgTermApplies2
import Derived.Deep.RegionWith
/- A term that is copied: what lies still to be done (holes), and that the whole reads as it ought once they are done. Nothing here speaks of the program. -/
namespace Go.Proofs.Ytglmhdlkhnlkiaa
open Go.RowKit

/-- A place where a term still lies as it came. -/
structure EHole where
  b : Nat
  off : Nat
  x : Nd
  ps : Te
/-- The one is the other, in other memory. -/
def NdI (x y : Nd) : Prop := y.k = x.k ∧ y.s = x.s ∧ y.n = x.n ∧ y.tk = x.tk ∧ y.tn = x.tn ∧ Img idn x.ty y.ty ∧ y.a = x.a ∧ y.b = x.b
def TImg : Te → Te → Prop
  | .nil, .nil => True
  | .cons x ps r, .cons y ps' r' => NdI x y ∧ TImg ps ps' ∧ TImg r r'
  | _, _ => False
theorem TImg.len {f g : Te} (h : TImg f g) : g.len = f.len := by
  induction f generalizing g with
  | nil => cases g <;> simp_all [TImg, Te.len]
  | cons x ps r _ ih =>
    cases g with
    | nil => simp [TImg] at h
    | cons y ps' r' => simp only [TImg] at h; simp only [Te.len, ih h.2.2]
theorem TImg.size {f g : Te} (h : TImg f g) : g.size = f.size := by
  induction f generalizing g with
  | nil => cases g <;> simp_all [TImg, Te.size]
  | cons x ps r ih1 ih =>
    cases g with
    | nil => simp [TImg] at h
    | cons y ps' r' => simp only [TImg] at h; simp only [Te.size, ih h.2.2, ih1 h.2.1]
/-- Types that aren't too great to be copied. -/
def Te.tyb : Te → Prop
  | .nil => True
  | .cons x ps r => x.ty.size < 1000000 ∧ ps.tyb ∧ r.tyb
/-- A copy of a term stands at a place. -/
def EAt (W : World) (b off : Nat) (x : Nd) (ps : Te) : Prop := ∃ (y : Nd) (g : Te), NdI x y ∧ TImg ps g ∧ NdAt W b off y ∧ TyV W.heap.size W y.ty (slv y.tu) ∧ TeV W.heap.size W g (slv y.u)
/-- Aside of some holes. -/
def EAside (Hs : List EHole) (b off : Nat) : Prop := ∀ h ∈ Hs, h.b = b → off < h.off ∨ h.off + 9 ≤ off
/-- Once the holes are done, the whole is. -/
def EWand (T29 T24 : TypeId) (rt B rb : Nat) (x : Nd) (ps : Te) (w : World) (Hs : List EHole) : Prop :=
  ∀ W : World, w.heap.size ≤ W.heap.size → (∀ h ∈ Hs, EAt W h.b h.off h.x h.ps) →
    (∀ b off, B ≤ b → isT T29 rt w b → EAside Hs b off → W.cell? ⟨b, off, none⟩ = w.cell? ⟨b, off, none⟩) →
    (∀ (b : Nat) (cs : Array Value), B ≤ b → w.heap[b]? = some (Obj.cells cs T24) → W.heap[b]? = some (Obj.cells cs T24)) → EAt W rb 0 x ps
/-- The holes of a new list. -/
def eholesOf (c : Nat) : Nat → Te → List EHole
  | _, .nil => []
  | off, .cons x ps r => ⟨c, off, x, ps⟩ :: eholesOf c (off + 9) r
theorem eholesOf_len (c off : Nat) (f : Te) : (eholesOf c off f).length = f.len := by
  induction f generalizing off with
  | nil => rfl
  | cons x ps r _ ih => simp [eholesOf, Te.len, ih]
theorem eholesOf_b {c off : Nat} {f : Te} {h : EHole} (hm : h ∈ eholesOf c off f) : h.b = c ∧ off ≤ h.off := by
  induction f generalizing off with
  | nil => simp [eholesOf] at hm
  | cons x ps r _ ih =>
    simp only [eholesOf, List.mem_cons] at hm
    rcases hm with rfl | hm
    · exact ⟨rfl, Nat.le_refl _⟩
    · have := ih hm; exact ⟨this.1, by omega⟩
/-- Apart. -/
def EApart (x y : EHole) : Prop := x.b = y.b → x.off + 9 ≤ y.off ∨ y.off + 9 ≤ x.off
theorem eholesOf_apart (c off : Nat) (f : Te) : (eholesOf c off f).Pairwise EApart := by
  induction f generalizing off with
  | nil => exact List.Pairwise.nil
  | cons x ps r _ ih =>
    refine List.Pairwise.cons (fun h hm _ => .inl ?_) (ih (off + 9))
    exact (eholesOf_b hm).2
/-- The sum of what is left. -/
def eleft (Hs : List EHole) : Nat := (Hs.map fun h => 1 + h.ps.size).sum
theorem eleft_app (a b : List EHole) : eleft (a ++ b) = eleft a + eleft b := by simp [eleft]
theorem eleft_holes (c off : Nat) (f : Te) : eleft (eholesOf c off f) = f.size := by
  induction f generalizing off with
  | nil => rfl
  | cons x ps r _ ih => simp only [eholesOf, eleft, List.map_cons, List.sum_cons, Te.size]; have := ih (off + 9); simp only [eleft] at this; omega
theorem eleft_len (Hs : List EHole) : Hs.length ≤ eleft Hs := by
  induction Hs with
  | nil => simp [eleft]
  | cons h l ih => simp only [eleft, List.map_cons, List.sum_cons, List.length_cons] at ih ⊢; omega
theorem eholes_read {W : World} {c : Nat} (f : Te) (off : Nat) (h : ∀ h ∈ eholesOf c off f, EAt W h.b h.off h.x h.ps) : ∃ G, TImg f G ∧ TeC W.heap.size W G c off := by
  induction f generalizing off with
  | nil => exact ⟨.nil, trivial, teC_nil⟩
  | cons x ps r _ ih =>
    obtain ⟨G, hG, hC⟩ := ih (off + 9) (fun x hx => h x (by simp only [eholesOf]; exact List.mem_cons_of_mem _ hx))
    obtain ⟨y, g, hy, hg, hn, ht, hv⟩ := h ⟨c, off, x, ps⟩ (by simp only [eholesOf]; exact List.mem_cons_self)
    exact ⟨.cons y g G, ⟨hy, hg, hG⟩, teC_cons.2 ⟨hn, ht, hv, hC⟩⟩
theorem EWand.step {T29 T24 : TypeId} {rt B rb : Nat} {x : Nd} {ps : Te} {w w2 : World} {Hs : List EHole} {h : EHole} (hW : EWand T29 T24 rt B rb x ps w (Hs ++ [h]))
    (hap : ∀ x ∈ Hs, EApart x h) (hB : B ≤ h.b) (hT : isT T29 rt w h.b)
    (hs : w.heap.size ≤ w2.heap.size) (hk : ∀ b off, B ≤ b → isT T29 rt w b → isT T29 rt w2 b ∧ (EAside [h] b off → w2.cell? ⟨b, off, none⟩ = w.cell? ⟨b, off, none⟩))
    (hk24 : ∀ (b : Nat) (cs : Array Value), B ≤ b → w.heap[b]? = some (Obj.cells cs T24) → w2.heap[b]? = some (Obj.cells cs T24))
    {tu2 u2 : Sl} (hat2 : NdAt w2 h.b h.off { h.x with tu := tu2, u := u2 }) (hty : FreshT T24 B w2 idn h.x.ty tu2)
    {c : Nat} (hc : w.heap.size ≤ c) (hu : (h.ps.len = 0 ∧ ∃ A cp, u2 = (A, 0, cp)) ∨ (0 < h.ps.len ∧ c < w2.heap.size ∧ ∃ cp, u2 = (some ⟨c, 0, none⟩, h.ps.len, cp) ∧ h.ps.len ≤ cp ∧ cp ≤ maxLen)) :
    EWand T29 T24 rt B rb x ps w2 (Hs ++ eholesOf c 0 h.ps) := by
  intro W hsz hdone hfr hf24
  have out : ∀ b off, b < w.heap.size → EAside Hs b off → EAside (Hs ++ eholesOf c 0 h.ps) b off := by
    intro b off hb ha x hx hxb
    rcases List.mem_append.1 hx with hx | hx
    · exact ha x hx hxb
    · have := (eholesOf_b hx).1
      omega
  have inH : ∀ j, j < 9 → EAside Hs h.b (h.off + j) := by
    intro j hj x hx hxb
    rcases hap x hx hxb with h' | h'
    · exact .inr (by omega)
    · exact .inl (by omega)
  have hat : ∀ j, j < 9 → W.cell? ⟨h.b, h.off + j, none⟩ = w2.cell? ⟨h.b, h.off + j, none⟩ := fun j hj => hfr h.b _ hB (hk h.b 0 hB hT).1 (out _ _ hT.lt (inH j hj))
  refine hW W (Nat.le_trans hs hsz) ?_ ?_ (fun b cs hb hl => hf24 b cs hb (hk24 b cs hb hl))
  · intro x hx
    rcases List.mem_append.1 hx with hx | hx
    · exact hdone x (List.mem_append_left _ hx)
    · have hxh : x = h := by simpa using hx
      rw [hxh]
      obtain ⟨G, hG, hC⟩ := eholes_read h.ps 0 (fun y hy => hdone y (List.mem_append_right _ hy))
      obtain ⟨ty2, hI, hTy⟩ := hty W hsz hf24
      refine ⟨{ h.x with tu := tu2, u := u2, ty := ty2 }, G, ⟨rfl, rfl, rfl, rfl, rfl, hI, rfl, rfl⟩, hG, ?_, hTy, ?_⟩
      · exact NdAt.to (w := w2) hat2 hat
      have hGl := hG.len
      rcases hu with ⟨hz, A, cp, rfl⟩ | ⟨hp, hc2, cp, rfl, hcp, hcm⟩
      · cases G with
        | nil => exact teV_nil.2 ⟨A, cp, rfl⟩
        | cons => simp only [Te.len] at hGl; omega
      · cases G with
        | nil => simp only [Te.len] at hGl; omega
        | cons y' ps' r' =>
          simp only [Te.len] at hGl
          exact teV_cons.2 ⟨c, 0, cp, by rw [hGl]; rfl, by omega, hcm, by omega, hC⟩
  · intro b off hb hbT ha
    have hA1 : EAside Hs b off := fun x hx => ha x (List.mem_append_left _ hx)
    have hA2 : EAside [h] b off := fun x hx => ha x (List.mem_append_right _ hx)
    rw [hfr b off hb (hk b off hb hbT).1 (out b off hbT.lt hA1)]
    exact (hk b off hb hbT).2 hA2
theorem Te.tyb_pre {f : Te} (h : f.tyb) : ∀ t ∈ f.pre, t.1.ty.size < 1000000 ∧ t.2.tyb := by
  induction f with
  | nil => intro t ht; cases ht
  | cons x ps r ih1 ih2 =>
    intro t ht
    simp only [Te.pre, List.mem_cons, List.mem_append] at ht
    rcases ht with rfl | ht | ht
    · exact ⟨h.1, h.2.1⟩
    · exact ih1 h.2.1 t ht
    · exact ih2 h.2.2 t ht
theorem Te.size_pre (f : Te) : ∀ t ∈ f.pre, 1 + t.2.size ≤ f.size := by
  induction f with
  | nil => intro t ht; cases ht
  | cons x ps r ih1 ih2 =>
    intro t ht
    simp only [Te.pre, List.mem_cons, List.mem_append] at ht
    rcases ht with rfl | ht | ht
    · simp only [Te.size]; omega
    · have := ih1 t ht; simp only [Te.size]; omega
    · have := ih2 t ht; simp only [Te.size]; omega
end Go.Proofs.Ytglmhdlkhnlkiaa
/- The answer's Depth. -/
namespace Go.Proofs.Ytglmhdlkhnlkiaa
open Go.RowKit

namespace Fo
theorem depth_app (f g : Fo) : (f.app g).depth = max f.depth g.depth := by
  induction f with
  | nil => simp [app, depth]
  | cons k n u ps r _ ih => simp [app, depth, ih] <;> omega
theorem depth_le_size (f : Fo) : f.depth ≤ f.size := by
  induction f with
  | nil => simp [depth]
  | cons k n u ps r ih1 ih2 => simp only [depth, size]; omega
theorem depth_take_step (f : Fo) (j : Nat) (hj : j < f.len) : (f.take (j + 1)).depth = max (f.take j).depth (1 + (f.at_ j).2.2.2.depth) := by
  rw [take_step f j hj, depth_app]
  simp [depth]
theorem depth_take_le (f : Fo) (j : Nat) : (f.take j).depth ≤ f.depth := by
  induction f generalizing j with
  | nil => cases j <;> simp [take]
  | cons k n u ps r _ ih =>
    cases j with
    | zero => simp [take, depth]
    | succ j => have := ih j; simp only [take, depth]; omega
end Fo
end Go.Proofs.Ytglmhdlkhnlkiaa
/- The guard of the laws: is there room for a type? -/
namespace Go.Proofs.Ytglmhdlkhnlkiaa
open Go.RowKit

/-- What room gives. -/
def RoomIs (n deep : Nat) (f : Fo) (r : Int) : Prop :=
  -1 ≤ r ∧ r ≤ n ∧ (0 ≤ r → 1 + (f.size : Int) + r = n ∧ 1 + f.depth ≤ deep) ∧ (1 + f.size ≤ n → 1 + f.depth ≤ deep → r = (n : Int) - (1 + f.size))
theorem RoomIs.zero (n : Nat) (f : Fo) : RoomIs n 0 f (-1) := ⟨by omega, by omega, by omega, by omega⟩
theorem RoomIs.none (deep : Nat) (f : Fo) : RoomIs 0 deep f (-1) := ⟨by omega, by omega, by omega, by omega⟩
set_option maxHeartbeats 1000000 in
set_option maxRecDepth 100000 in
theorem room_any (deep : Nat) : ∀ (f : Fo) (k n0 : Int) (v : Value) (n : Nat) (w : World), deep ≤ 40 → n ≤ 300 → TyV w.heap.size w f v →
    Calls Try.prog 54 #[tyVal k n0 v, .int .i64 n, .int .i64 deep] w fun e w' => ∃ r, e = .returned (.int .i64 r) ∧ Below w.heap.size w w' ∧ RoomIs n deep f r := by
  induction deep with
  | zero =>
    intro f k n0 v n w hd hn h
    obtain ⟨A, c, rfl⟩ := h.slice
    clear h
    unfold tyVal
    go_enter Try.func54, Try.ntmps54
    go_wp2_with fail
    go_ret
    exact ⟨_, rfl, (Below.refl _ _).alloc (Nat.le_refl _) _, RoomIs.zero n f⟩
  | succ deep ih =>
    intro f k n0 v n w hd hn h
    obtain ⟨A, c, rfl⟩ := h.slice
    have H := Lib.hid h
    have IH := Lib.hid ih
    have hml : f.len ≤ maxLen := by
      rcases Nat.eq_zero_or_pos f.len with h0 | h0
      · omega
      · obtain ⟨_, _, cap, _, h1, h2, _⟩ := h.form h0
        exact Nat.le_trans h1 h2
    replace hml : f.len ≤ 9223372036854775807 := by unfold maxLen at hml; omega
    clear h ih
    rw [show (((deep + 1 : Nat)) : Int) = (deep : Int) + 1 from by omega]
    unfold tyVal
    go_enter Try.func54, Try.ntmps54
    have HB0 := Lib.hid (show ∀ (cs : Array Value) (t : TypeId), Below w.heap.size w (w.alloc (Obj.cells cs t)) from fun cs t => (Below.refl _ w).alloc (Nat.le_refl _) _)
    have f1 : ((deep : Int) + 1 == 0) = false := beq_eq_false_iff_ne.2 (by omega)
    go_wp2_with fail
    go_loopw [1, 7] (fun t1 t7 wr => ∃ (j : Nat) (r : Int), j ≤ f.len ∧ t7 = .int .i64 j ∧ t1 = .int .i64 r ∧ RoomIs n (deep + 1) (f.take j) r ∧ wr.cell? ⟨w.heap.size, 2, none⟩ = some (.slice A f.len c) ∧ Below w.heap.size w wr ∧ w.heap.size + 1 ≤ wr.heap.size) (fun _ t _ => f.len - (intOf t).toNat)
    case atStart =>
      refine ⟨0, (n : Int) - 1, Nat.zero_le _, rfl, by go_num, ?_, by go_simp, HB0.out _ _, by simp⟩
      unfold RoomIs
      simp only [Fo.take_zero, Fo.size, Fo.depth]
      omega
    case round =>
      obtain ⟨j, r, hj, rfl, rfl, hr, e2, hb, hz⟩ := hrel
      have HB := Lib.hid hb
      have HR := Lib.hid hr
      have hr0 : -1 ≤ r ∧ r ≤ n := ⟨hr.1, hr.2.1⟩
      clear hb hr
      by_cases hjl : j < f.len
      · by_cases hr1 : 0 ≤ r
        · obtain ⟨rn, rfl⟩ := Int.eq_ofNat_of_zero_le hr1
          obtain ⟨b, off, cap, hv, _, _, hlt, hC⟩ := H.out.form (by omega)
          injection hv with hA _ hcc
          subst hA; subst hcc
          obtain ⟨d0, d1, d2, hch⟩ := tyC_at hC j hjl
          have c0 := (HB.out.cell (p := ⟨b, off + j * 3, none⟩) hlt).trans d0
          have c1 := (HB.out.cell (p := ⟨b, off + j * 3 + 1, none⟩) hlt).trans d1
          have c2 := (HB.out.cell (p := ⟨b, off + j * 3 + 2, none⟩) hlt).trans d2
          have hch' : TyV wr.heap.size wr (f.at_ j).2.2.2 (slv (f.at_ j).2.2.1) := hch.keep HB.out.size fun b off hb' => HB.out.cell (p := ⟨b, off, none⟩) hb'
          have HST := Lib.hid (f.size_take_step j hjl)
          have HDT := Lib.hid (f.depth_take_step j hjl)
          have hrec := IH.out (f.at_ j).2.2.2 (f.at_ j).1 (f.at_ j).2.1 (slv (f.at_ j).2.2.1) rn wr (by omega) (by omega) hch'
          clear d0 d1 d2 hC hch hch'
          unfold tyVal at hrec
          generalize f.at_ j = p at *
          obtain ⟨pk, pn, pv, pf⟩ := p
          dsimp only [slv] at hrec c0 c1 c2
          have HREC := Lib.hid hrec
          clear hrec
          have f2 : decide ((0 : Int) ≤ rn) = true := decide_eq_true hr1
          go_wp2_with fail
          refine HREC.out.mono ?_
          rintro e w2 ⟨r2, rfl, hb3, hr2⟩
          have e2' := (hb3.cell (p := ⟨w.heap.size, 2, none⟩) (by show w.heap.size < wr.heap.size; omega)).trans e2
          have HB3 := Lib.hid hb3
          have HR2 := Lib.hid hr2
          clear hb3 hr2
          go_wp2_with fail
          go_roundw
          case rel =>
            refine ⟨j + 1, r2, by omega, by go_num, rfl, ?_, e2', HB.out.trans (HB3.out.mono (by omega)), Nat.le_trans hz HB3.out.size⟩
            have h1 := HR.out
            have h2 := HR2.out
            have h3 := HST.out
            have h4 := HDT.out
            unfold RoomIs at h1 h2 ⊢
            omega
          case measure => simp [intOf]; omega
        · have f2 : decide ((0 : Int) ≤ r) = false := decide_eq_false hr1
          have HTL := Lib.hid (f.size_take_le j)
          have HDL := Lib.hid (f.depth_take_le j)
          go_wp2_with fail
          go_ret
          refine ⟨_, rfl, HB.out, ?_⟩
          have h1 := HR.out
          have h3 := HTL.out
          have h4 := HDL.out
          unfold RoomIs at h1 ⊢
          omega
      · obtain rfl : j = f.len := by omega
        have HT : Hid (f.take f.len = f) := Lib.hid f.take_len
        go_wp2_with fail
        go_ret
        refine ⟨_, rfl, HB.out, ?_⟩
        have h1 := HR.out
        rwa [HT.out] at h1
set_option maxHeartbeats 1000000 in
/-- Is there more than is asked of? -/
theorem great_any (f : Fo) (k n0 : Int) (v : Value) (w : World) (h : TyV w.heap.size w f v) :
    Calls Try.prog 38 #[tyVal k n0 v] w fun e w' => e = .returned (.bool (!(decide (1 + f.size ≤ 300) && decide (1 + f.depth ≤ 40)))) ∧ Below w.heap.size w w' := by
  obtain ⟨A, c, rfl⟩ := h.slice
  obtain ⟨w1, hw1⟩ : ∃ w1, w.alloc (Obj.cells #[.int .i64 k, .int .i64 n0, .slice A f.len c] 24) = w1 := ⟨_, rfl⟩
  have hb1 : Below w.heap.size w w1 := by rw [← hw1]; exact (Below.refl _ _).alloc (Nat.le_refl _) _
  have hs1 := hb1.size
  have hc := room_any 40 f k n0 (.slice A f.len c) 300 w1 (by omega) (by omega) (h.keep hs1 fun b off hb' => hb1.cell (p := ⟨b, off, none⟩) hb')
  rw [← hw1] at hc
  have HC := Lib.hid hc
  have HB1 := Lib.hid hb1
  have HW1 := Lib.hid hw1
  clear h hc hs1 hb1 hw1
  unfold tyVal at HC ⊢
  go_enter Try.func38, Try.ntmps38
  go_wp2_with fail
  refine HC.out.mono ?_
  rintro e w' ⟨r, rfl, hb, hr⟩
  have hd : decide (r < 0) = !(decide (1 + f.size ≤ 300) && decide (1 + f.depth ≤ 40)) := by
    unfold RoomIs at hr
    by_cases h1 : r < 0
    · have : ¬ (1 + f.size ≤ 300 ∧ 1 + f.depth ≤ 40) := by omega
      rw [decide_eq_true h1]
      simp only [← Bool.decide_and, decide_eq_false this]
      rfl
    · have : 1 + f.size ≤ 300 ∧ 1 + f.depth ≤ 40 := by omega
      rw [decide_eq_false h1]
      simp only [← Bool.decide_and, decide_eq_true this]
      rfl
  have HD := Lib.hid hd
  rw [HW1.out] at hb
  have HB := Lib.hid (show Below w.heap.size w w' from HB1.out.trans (hb.mono HB1.out.size))
  clear hd hr hb
  go_wp2_with fail
  go_ret
  exact ⟨ret_bool HD.out, HB.out⟩
end Go.Proofs.Ytglmhdlkhnlkiaa
