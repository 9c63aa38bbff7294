/- signature: the answer's Read. -/
import Derived.Test.YtjmbkkpglkbppaaDoorSgL
import Derived.Deep.CutBlock
import Derived.Deep.DeepCutAuto
namespace Go.Proofs.YtjmbkkpglkbppaaDoor
open Go.RowKit
attribute [local go_sem ↓] builtin_app

def isB (ts : List TV) (i k : Int) (x : List UInt8) : Bool := decide (0 ≤ i) && decide (i < ts.length) && ((tokAt ts i).1 == k) && ((tokAt ts i).2.1.toList == x)
theorem isB_sees (ts : List TV) (i : Int) (x : List UInt8) : isB ts i 4 x = seesB ts i x := by
  unfold isB seesB
  by_cases ho : i < 0 ∨ (ts.length : Int) ≤ i
  · rw [tokAt_out ts i ho]; simp
  · have h1 : decide (0 ≤ i) = true := decide_eq_true (by omega)
    have h2 : decide (i < (ts.length : Int)) = true := decide_eq_true (by omega)
    rw [h1, h2]; simp
theorem isB_in {ts : List TV} {i k : Int} {x : List UInt8} (h : isB ts i k x = true) : 0 ≤ i ∧ i < ts.length := by
  unfold isB at h
  simp only [Bool.and_eq_true, decide_eq_true_eq] at h
  exact ⟨h.1.1.1, h.1.1.2⟩
theorem isB_named (ts : List TV) (i : Int) : isB ts i 3 [105, 110, 116] = decide (namedB (tokAt ts i) = some (2, 0)) ∧ isB ts i 3 [98, 111, 111, 108] = decide (namedB (tokAt ts i) = some (3, 0)) := by
  unfold isB
  by_cases ho : i < 0 ∨ (ts.length : Int) ≤ i
  · rw [tokAt_out ts i ho]; simp [namedB]
  · have h1 : decide (0 ≤ i) = true := decide_eq_true (by omega)
    have h2 : decide (i < (ts.length : Int)) = true := decide_eq_true (by omega)
    rw [h1, h2]
    generalize tokAt ts i = t
    unfold namedB
    constructor
    · rw [Bool.eq_iff_iff]
      simp only [Bool.true_and, Bool.and_eq_true, beq_iff_eq, decide_eq_true_eq]
      constructor
      · intro h; rw [if_pos h]
      · intro h
        split at h
        · assumption
        · split at h <;> simp at h
    · rw [Bool.eq_iff_iff]
      simp only [Bool.true_and, Bool.and_eq_true, beq_iff_eq, decide_eq_true_eq]
      constructor
      · intro h
        rw [if_neg (fun h2 => by have := h.2.symm.trans h2.2; simp at this), if_pos h]
      · intro h
        split at h
        · simp at h
        · split at h
          · assumption
          · simp at h
theorem is_call (ts : List TV) (tv : Value) (w : World) (ht : RdT w tv ts) (hts : ts.length ≤ 1000000) (i k : Int) (x : ByteArray) (y : List UInt8) (hxy : x.toList = y) (W : World) (hb : Below w.heap.size w W) :
    Calls Tryd.prog 18 #[tv, .int .i64 i, .int .i64 k, .string x] W fun e w' => e = .returned (.bool (isB ts i k y)) ∧ Below W.heap.size W w' := by
  rw [← hxy]
  exact is_any W tv ts i k x (ht.below hb) hts
theorem FinT.of_fresh {T : TypeId} {B B' : Nat} {A : List Nat} {w : World} {f : Fo} {u : Sl} (h : FreshT T B' w id f u) (hA : ∀ a ∈ A, a < B') (hB : B ≤ B') : FinT T B A w f u :=
  fun W hs hc => h W hs fun b cs hb hl => hc b cs (by omega) (fun hbA => by have := hA b hbA; omega) hl
theorem Rf.no {S : Tk} {most : Int} {p : RP} {o : Out} (h : Rf S most p o) : ∀ e j, o = .err e j → e ≠ 0 := by
  induction h with
  | deep => intro e j he; cases he; decide
  | bad h x ih => exact ih
  | plain => intro e j he; cases he
  | arrow => intro e j he; cases he
  | abad h x hj y ih ih2 => exact ih2
  | leaf => intro e j he; cases he
  | none => intro e j he; cases he; decide
  | open_ h x y ih ih2 => exact ih2
  | obad h x ih => exact ih
  | many => intro e j he; cases he; decide
  | mbad h hl x ih => exact ih
  | more h hl x y ih ih2 => exact ih2
  | form => intro e j he; cases he; decide
  | close => intro e j he; cases he
theorem FrI.at_ {T : TypeId} {B : Nat} {A X : List Nat} {w w' : World} {ms : List MF} (h : FrI T B (X ++ A) w ms) (hs : w.heap.size ≤ w'.heap.size) (k : ∀ (b : Nat) (cs : Array Value), b ∉ X → w.heap[b]? = some (Obj.cells cs T) → w'.heap[b]? = some (Obj.cells cs T))
    (hX : ∀ m ∈ ms, ∀ b, (slv m.v).ownBlock = some b → b ∉ X) : FrI T B (X ++ A) w' ms :=
  ⟨(h.back hs k hX).row, fun m hm p hp => (h.fin m hm p hp).to hs fun b cs _ hb hc => ⟨hb, k b cs (fun hx => hb (List.mem_append_left _ hx)) hc⟩⟩
/-- What the answer's Read owes. -/
def RefPost (S : Tk) (i lev most : Int) (w : World) (e : Ending) (w' : World) : Prop :=
  ∃ (o : Out) (u : Sl) (f : Fo), Rf S most (.r i lev) o ∧ e = .returned (.tuple #[tyVal o.ty.1 o.ty.2.1 (slv u), .int .i64 o.pos, .int .i64 o.no]) ∧ f = o.ty.2.2 ∧ FreshT 28 w.heap.size w' id f u ∧ Below w.heap.size w w' ∧ (∀ t j, o = .done t j → i < j ∧ j ≤ 1000000)
/-- Behind the first part: what the three boxes hold. -/
def AtomOk (S : Tk) (w : World) (ts : List TV) (i lev most : Int) (s1 : Value) (wx : World) : Prop :=
  ∃ (t : Pt) (j : Int), s1 = .int .i64 j ∧ Rf S most (.a i lev) (.done (ptP t) j) ∧ 0 ≤ i ∧ i < j ∧ j ≤ ts.length ∧ wx.heap[w.heap.size]? = some (Obj.cells (tyC3 zP) 28) ∧ wx.heap[w.heap.size + 1]? = some (Obj.cells (tyC3 zP) 28) ∧
    wx.heap[w.heap.size + 2]? = some (Obj.cells (tyC3 t) 28) ∧ FinT 28 w.heap.size [w.heap.size, w.heap.size + 1, w.heap.size + 2] wx t.2.2.2 t.2.2.1 ∧ Below w.heap.size w wx
def intAt : Value → Int
  | .int _ n => n
  | _ => 0
/-- Ahead of a tuple's next sign: what is read of it, and where it lies. -/
def TupOk (S : Tk) (w : World) (i lev most : Int) (g : Nat) (s1 s14 s15 : Value) (wr : World) : Prop :=
  ∃ (j : Int) (L : List Pt) (v : Sl) (q : Pt), s1 = .int .i64 j ∧ s14 = .int .i64 j ∧ s15 = .int .i64 0 ∧ i < j ∧ j ≤ 1000000 ∧ 1 ≤ L.length ∧ L.length ≤ 8 ∧ (∀ o, Rf S most (.t (L.map ptP) j lev) o → Rf S most (.a i lev) o) ∧
    wr.heap[w.heap.size]? = some (Obj.cells (tyC3 zP) 28) ∧ wr.heap[w.heap.size + 1]? = some (Obj.cells (tyC3 zP) 28) ∧ wr.heap[w.heap.size + 2]? = some (Obj.cells (tyC3 (5, 0, v, .nil)) 28) ∧
    wr.heap[g]? = some (Obj.cells (tyC3 q) 28) ∧ w.heap.size + 2 < g ∧
    FrI 28 w.heap.size ([w.heap.size, w.heap.size + 1, w.heap.size + 2, g] ++ acts [⟨false, lev, v, L⟩]) wr [⟨false, lev, v, L⟩] ∧ (∀ b ∈ acts [⟨false, lev, v, L⟩], b ∉ [w.heap.size, w.heap.size + 1, w.heap.size + 2, g]) ∧ Below w.heap.size w wr
/-- A word that stands for a type: the first part is read. -/
theorem leaf_ok {ts : List TV} {w w4 : World} {i lev most k n : Int} (hb : namedB (tokAt ts i) = some (k, n)) (hbw : Below w.heap.size w w4) (x0 : w4.heap[w.heap.size]? = some (Obj.cells (tyC3 zP) 28))
    (x1 : w4.heap[w.heap.size + 1]? = some (Obj.cells (tyC3 zP) 28)) (x2 : w4.heap[w.heap.size + 2]? = some (Obj.cells (tyC3 zP) 28)) :
    AtomOk (tkOf namedB ts) w ts i lev most (.int .i64 (i + 1)) (((w4.setCell ⟨w.heap.size + 1 + 1, 0, none⟩ (.int .i64 k)).setCell ⟨w.heap.size + 1 + 1, 1, none⟩ (.int .i64 n)).setCell ⟨w.heap.size + 1 + 1, 2, none⟩ (.slice none 0 0)) := by
  have hi : 0 ≤ i ∧ i < ts.length := by
    by_cases ho : i < 0 ∨ (ts.length : Int) ≤ i
    · rw [tokAt_out ts i ho] at hb; simp [namedB] at hb
    · omega
  have hs : (tkOf namedB ts).sg i ≠ 1 := by
    intro h
    have h4 := (sg1 ts i).1 h
    rw [← isB_sees] at h4
    unfold isB at h4
    simp only [Bool.and_eq_true, beq_iff_eq] at h4
    have h5 := h4.1.2
    unfold namedB at hb
    rw [h5] at hb
    simp at hb
  refine ⟨(k, n, (none, 0, 0), .nil), i + 1, rfl, .leaf hs hb, by omega, by omega, by omega, (set_ty_other _ _ _ (by omega)).trans x0, (set_ty_other _ _ _ (by omega)).trans x1, set_ty (k, n, (none, 0, 0), .nil) x2, fin_nil, below_set3 hbw _ (by omega) _ _ _⟩
set_option maxRecDepth 100000 in
set_option maxHeartbeats 8000000 in
theorem rread_any (m : Nat) : ∀ (w : World) (tv : Value) (ts : List TV) (i lev most : Int), ((ts.length : Int) - i).toNat < m → RdT w tv ts → ts.length ≤ 1000000 → -9223372036854775808 ≤ lev → (0 ≤ i → lev + ((ts.length : Int) - i).toNat ≤ 5000000) →
    Calls Tryd.prog 8 #[tv, .int .i64 i, .int .i64 lev, .int .i64 most] w (RefPost (tkOf namedB ts) i lev most w) := by
  induction m with
  | zero => intro w tv ts i lev most h; omega
  | succ m ih =>
    intro w tv ts i lev most hm ht hts hl1 hl2
    obtain ⟨A, n, c, hvv⟩ : ∃ A n c, tv = .slice A n c := by
      rcases ht.2 with ⟨_, A, c, h⟩ | ⟨b, off, cap, h, _⟩
      · exact ⟨A, 0, c, h⟩
      · exact ⟨_, _, _, h⟩
    have HIS := Lib.hid (is_call ts tv w ht hts)
    have HIH := Lib.hid (fun (W : World) (hb : Below w.heap.size w W) (j l : Int) (h1 : ((ts.length : Int) - j).toNat < m) (h2 : -9223372036854775808 ≤ l) (h3 : l + ((ts.length : Int) - j).toNat ≤ 5000000) => ih W tv ts j l most h1 (ht.below hb) hts h2 fun _ => h3)
    subst hvv
    clear ih ht
    by_cases hlm : most < lev
    · have f1 : decide (most < lev) = true := decide_eq_true hlm
      go_enter Tryd.func8, Tryd.ntmps8
      go_wp2_with fail
      refine bodyPost_ret (results_box_tmp2 (p := 8) (q := 9) (r := 10) rfl _ _ _ _ rfl (load_ty (k := 0) (n := 0) (u := (none, 0, 0)) (by go_simp) (by go_simp) (by unfold slv; go_simp))) rfl ?_
      exact ⟨.err 4 i, (none, 0, 0), .nil, .deep hlm, rfl, rfl, fin_nil.fresh (A := []), ((Below.refl _ _).alloc (Nat.le_refl _) _).alloc (by simp) _, fun t j h => by cases h⟩
    · have f1 : decide (most < lev) = false := decide_eq_false hlm
      go_enter Tryd.func8, Tryd.ntmps8
      obtain ⟨w3, hw3⟩ : ∃ w3, ((w.alloc (.cells (tyC3 zP) 28)).alloc (.cells (tyC3 zP) 28)).alloc (.cells (tyC3 zP) 28) = w3 := ⟨_, rfl⟩
      have hb3 : Below w.heap.size w w3 := by rw [← hw3]; exact (((Below.refl _ _).alloc (Nat.le_refl _) _).alloc (by simp) _).alloc (by simp; omega) _
      have hx0 : w3.heap[w.heap.size]? = some (Obj.cells (tyC3 zP) 28) := by rw [← hw3]; exact (Below.heap_alloc _ _ _ (by simp; omega)).trans ((Below.heap_alloc _ _ _ (by simp)).trans (heap_alloc_new w _))
      have hx1 : w3.heap[w.heap.size + 1]? = some (Obj.cells (tyC3 zP) 28) := by
        rw [← hw3]
        refine (Below.heap_alloc _ _ _ (by simp)).trans ?_
        have := heap_alloc_new (w.alloc (.cells (tyC3 zP) 28)) (.cells (tyC3 zP) 28)
        rwa [World.size_alloc] at this
      have hx2 : w3.heap[w.heap.size + 2]? = some (Obj.cells (tyC3 zP) 28) := by
        rw [← hw3]
        have := heap_alloc_new ((w.alloc (.cells (tyC3 zP) 28)).alloc (.cells (tyC3 zP) 28)) (.cells (tyC3 zP) 28)
        rwa [World.size_alloc, World.size_alloc] at this
      go_upto_block 0 with fail
      refine wp_world (fun Z => Z = w3) hw3 ?_
      rintro Z rfl
      clear hw3
      go_cut [1] (fun s1 wx => AtomOk (tkOf namedB ts) w ts i lev most s1 wx)
      case first =>
        have H0 := Lib.hid (And.intro hb3 (And.intro hx0 (And.intro hx1 hx2)))
        obtain ⟨b1, hb1⟩ : ∃ b, isB ts i 3 [105, 110, 116] = b := ⟨_, rfl⟩
        have HC1 := Lib.hid (HIS.out i 3 ⟨#[105, 110, 116]⟩ [105, 110, 116] (by rw [toList_data]) Z hb3)
        rw [hb1] at HC1
        have HB1 := Lib.hid hb1
        have hlZ : w.heap.size + 2 < Z.heap.size := (Array.getElem?_eq_some_iff.1 hx2).1
        have hlZ0 : w.heap.size < Z.heap.size := by omega
        have hlZ1 : w.heap.size + 1 < Z.heap.size := by omega
        clear hb1 hx0 hx1 hx2 hb3
        go_wp2_with fail
        refine HC1.out.mono ?_
        rintro e w4 ⟨rfl, hb4⟩
        obtain ⟨hb3, hx0, hx1, hx2⟩ := H0.out
        have x0 := (hb4.block _ (by omega)).trans hx0
        have x1 := (hb4.block _ (by omega)).trans hx1
        have x2 := (hb4.block _ (by omega)).trans hx2
        have hbw4 : Below w.heap.size w w4 := hb3.trans (hb4.mono (by omega))
        have hl4 : w.heap.size + 2 < w4.heap.size := (Array.getElem?_eq_some_iff.1 x2).1
        cases b1 with
        | true =>
          obtain ⟨z0, z1, z2⟩ := ty_cells x2
          dsimp only [slv, zP] at z0 z1 z2
          obtain ⟨hi0, hil⟩ := isB_in HB1.out
          have e1 : IntKind.i64.wrap (i + 1) = i + 1 := IntWalk.i64_in _ (by omega)
          have rh0 := frozen_cells x2 0
          have rh1 := frozen_cells x2 1
          have rh2 := frozen_cells x2 2
          have HK := Lib.hid (And.intro hbw4 (And.intro x0 (And.intro x1 x2)))
          clear hb3 hx0 hx1 hx2 hb4 x0 x1 x2 hbw4
          go_wp2_with fail
          go_meet
          case rel =>
            obtain ⟨hbw4, x0, x1, x2⟩ := HK.out
            have hn : namedB (tokAt ts i) = some (2, 0) := of_decide_eq_true ((isB_named ts i).1.symm.trans HB1.out)
            exact leaf_ok hn hbw4 x0 x1 x2
        | false =>
          obtain ⟨b2, hb2⟩ : ∃ b, isB ts i 3 [98, 111, 111, 108] = b := ⟨_, rfl⟩
          have HC2 := Lib.hid (HIS.out i 3 ⟨#[98, 111, 111, 108]⟩ [98, 111, 111, 108] (by rw [toList_data]) w4 hbw4)
          rw [hb2] at HC2
          have HB2 := Lib.hid hb2
          have H4 := Lib.hid (And.intro hbw4 (And.intro x0 (And.intro x1 x2)))
          clear hb2 hb3 hx0 hx1 hx2 hb4 x0 x1 x2 hbw4
          go_wp2_with fail
          refine HC2.out.mono ?_
          rintro e w5 ⟨rfl, hb5⟩
          obtain ⟨hbw4, y0, y1, y2⟩ := H4.out
          have x0 := (hb5.block _ (by omega)).trans y0
          have x1 := (hb5.block _ (by omega)).trans y1
          have x2 := (hb5.block _ (by omega)).trans y2
          have hbw5 : Below w.heap.size w w5 := hbw4.trans (hb5.mono (by omega))
          have hl5 : w.heap.size + 2 < w5.heap.size := (Array.getElem?_eq_some_iff.1 x2).1
          cases b2 with
          | true =>
            obtain ⟨z0, z1, z2⟩ := ty_cells x2
            dsimp only [slv, zP] at z0 z1 z2
            obtain ⟨hi0, hil⟩ := isB_in HB2.out
            have e1 : IntKind.i64.wrap (i + 1) = i + 1 := IntWalk.i64_in _ (by omega)
            have rh0 := frozen_cells x2 0
            have rh1 := frozen_cells x2 1
            have rh2 := frozen_cells x2 2
            have HK := Lib.hid (And.intro hbw5 (And.intro x0 (And.intro x1 x2)))
            clear hbw4 y0 y1 y2 hb5 x0 x1 x2 hbw5
            go_wp2_with fail
            go_meet
            case rel =>
              obtain ⟨hbw4, x0, x1, x2⟩ := HK.out
              have hn : namedB (tokAt ts i) = some (3, 0) := of_decide_eq_true ((isB_named ts i).2.symm.trans HB2.out)
              exact leaf_ok hn hbw4 x0 x1 x2
          | false =>
            have hno : namedB (tokAt ts i) = none := by
              have h1 := (isB_named ts i).1.symm.trans HB1.out
              have h2 := (isB_named ts i).2.symm.trans HB2.out
              have h1' := of_decide_eq_false h1
              have h2' := of_decide_eq_false h2
              unfold namedB at h1' h2' ⊢
              split
              · rename_i h; rw [if_pos h] at h1'; exact absurd rfl h1'
              · rename_i h; rw [if_neg h] at h2'
                split
                · rename_i h3; rw [if_pos h3] at h2'; exact absurd rfl h2'
                · rfl
            have HNO := Lib.hid hno
            obtain ⟨b3, hb3⟩ : ∃ b, isB ts i 4 [40] = b := ⟨_, rfl⟩
            have HC3 := Lib.hid (HIS.out i 4 ⟨#[40]⟩ [40] (by rw [toList_data]) w5 hbw5)
            rw [hb3] at HC3
            have hb3' := hb3
            rw [isB_sees] at hb3'
            have HB3 := Lib.hid hb3'
            have H5 := Lib.hid (And.intro hbw5 (And.intro x0 (And.intro x1 x2)))
            clear hb3 hb3' hbw4 y0 y1 y2 hb5 x0 x1 x2 hbw5 hno
            go_wp2_with fail
            refine HC3.out.mono ?_
            rintro e w6 ⟨rfl, hb6⟩
            obtain ⟨hbw5, y0, y1, y2⟩ := H5.out
            have x0 := (hb6.block _ (by omega)).trans y0
            have x1 := (hb6.block _ (by omega)).trans y1
            have x2 := (hb6.block _ (by omega)).trans y2
            have hbw6 : Below w.heap.size w w6 := hbw5.trans (hb6.mono (by omega))
            have hl6 : w.heap.size + 2 < w6.heap.size := (Array.getElem?_eq_some_iff.1 x2).1
            cases b3 with
            | false =>
              obtain ⟨r0, r1, r2⟩ := ty_cells x0
              obtain ⟨s0, s1, s2⟩ := ty_cells x1
              dsimp only [slv, zP] at r0 r1 r2 s0 s1 s2
              have rf0 := frozen_cells x0 0
              have rf1 := frozen_cells x0 1
              have rf2 := frozen_cells x0 2
              have rg0 := frozen_cells x1 0
              have rg1 := frozen_cells x1 1
              have rg2 := frozen_cells x1 2
              have hla : w.heap.size < w6.heap.size := by omega
              have hlb : w.heap.size + 1 < w6.heap.size := by omega
              have hs1 : (tkOf namedB ts).sg i ≠ 1 := fun h => by
                have := (sg1 ts i).1 h
                rw [HB3.out] at this
                cases this
              have HFIN := Lib.hid (And.intro hbw6 hs1)
              clear hbw5 y0 y1 y2 hb6 x0 x1 x2 hbw6 hs1
              go_wp2_with fail
              refine bodyPost_ret (results_box_tmp2 (p := 8) (q := 9) (r := 10) rfl _ _ _ _ rfl (put_ty 0 0 (none, 0, 0) r0 r1 r2)) rfl ?_
              exact ⟨.err 3 i, (none, 0, 0), .nil, .bad (by omega) (.none HFIN.out.2 HNO.out), rfl, rfl, fin_nil.fresh (A := []), below_set3 HFIN.out.1 _ (Nat.le_refl _) _ _ _, fun t j h => by cases h⟩
            | true =>
              have hsg : (tkOf namedB ts).sg i = 1 := (sg1 ts i).2 HB3.out
              obtain ⟨hi0, hil⟩ := sees_in HB3.out
              have e1 : IntKind.i64.wrap (i + 1) = i + 1 := IntWalk.i64_in _ (by omega)
              have e2 : IntKind.i64.wrap (lev + 1) = lev + 1 := IntWalk.i64_in _ (by omega)
              have HSG := Lib.hid hsg
              have HR := Lib.hid (HIH.out w6 hbw6 (i + 1) (lev + 1) (by omega) (by omega) (by omega))
              have H6 := Lib.hid (And.intro x0 (And.intro x1 (And.intro x2 hbw6)))
              clear hbw5 y0 y1 y2 hb6 x0 x1 x2 hbw6 hsg
              go_wp2_with fail
              refine HR.out.mono ?_
              rintro e w7 ⟨o1, ⟨v1, v2, v3⟩, g1, hR1, rfl, hg1, hfr1, hb7, hps⟩
              dsimp only [tyVal, slv]
              obtain ⟨y0, y1, y2, hbw6⟩ := H6.out
              have x0 := (hb7.block _ (by omega)).trans y0
              have x1 := (hb7.block _ (by omega)).trans y1
              have x2 := (hb7.block _ (by omega)).trans y2
              have hbw7 : Below w.heap.size w w7 := hbw6.trans (hb7.mono (by omega))
              have hl7 : w.heap.size + 2 < w7.heap.size := (Array.getElem?_eq_some_iff.1 x2).1
              have hla : w.heap.size < w7.heap.size := by omega
              have hlb : w.heap.size + 1 < w7.heap.size := by omega
              obtain ⟨r0, r1, r2⟩ := ty_cells x0
              obtain ⟨s0, s1, s2⟩ := ty_cells x1
              obtain ⟨z0, z1, z2⟩ := ty_cells x2
              have rf0 := frozen_cells x0 0
              have rf1 := frozen_cells x0 1
              have rf2 := frozen_cells x0 2
              have rg0 := frozen_cells x1 0
              have rg1 := frozen_cells x1 1
              have rg2 := frozen_cells x1 2
              have rh0 := frozen_cells x2 0
              have rh1 := frozen_cells x2 1
              have rh2 := frozen_cells x2 2
              dsimp only [slv, zP] at r0 r1 r2 s0 s1 s2 z0 z1 z2
              cases o1 with
              | err er j2 =>
                have her := hR1.no er j2 rfl
                have hne : (er != 0) = true := bne_iff_ne.2 her
                have HFIN := Lib.hid (fun a b c o => ((below_set3 hbw7 w.heap.size (Nat.le_refl _) a b c).alloc (by simp [World.setCell]; omega) o : Below w.heap.size w _))
                have HBAD := Lib.hid (Rf.bad (by omega : lev ≤ most) (Rf.obad HSG.out hR1))
                clear y0 y1 y2 hbw6 hfr1 hb7 hps x0 x1 x2 hbw7 hg1 her z0 z1 z2 rh0 rh1 rh2
                dsimp only [Out.ty, Out.pos, Out.no]
                go_wp2_with fail
                refine bodyPost_ret (results_box_tmp2 (p := 8) (q := 9) (r := 10) rfl _ _ _ _ rfl (load_ty (k := 0) (n := 0) (u := (none, 0, 0)) (by go_simp) (by go_simp) (by unfold slv; go_simp))) rfl ?_
                exact ⟨.err er j2, (none, 0, 0), .nil, HBAD.out, rfl, rfl, fin_nil.fresh (A := []), HFIN.out _ _ _ _, fun t j h => by cases h⟩
              | done t1 j1 =>
                have hne : ((0 : Int) != 0) = false := rfl
                have HK := Lib.hid (And.intro hfr1 (And.intro hb7 (And.intro hbw7 (And.intro hps (And.intro x0 (And.intro x1 x2))))))
                clear y0 y1 y2 hbw6 hfr1 hb7 hps x0 x1 x2 hbw7
                dsimp only [Out.ty, Out.pos, Out.no]
                go_wp2_with fail
                go_loopw [1, 14, 15] (fun s1 s14 s15 wr => TupOk (tkOf namedB ts) w i lev most w7.heap.size s1 s14 s15 wr) (fun s1 s14 s15 wr => ((1000001 : Int) - intAt s1).toNat)
                case atStart =>
                  obtain ⟨hfr1, hb7, hbw7, hps, x0, x1, x2⟩ := HK.out
                  have hps1 := hps _ _ rfl
                  have hg1' : g1 = t1.2.2 := hg1
                  obtain ⟨V, hV⟩ : ∃ V, ((w7.setCell ⟨w.heap.size + 1 + 1, 0, none⟩ (.int .i64 5)).setCell ⟨w.heap.size + 1 + 1, 1, none⟩ (.int .i64 0)).setCell ⟨w.heap.size + 1 + 1, 2, none⟩ (.slice (some ⟨w7.heap.size + 1, 0, none⟩) 1 1) = V := ⟨_, rfl⟩
                  have hVs : V.heap.size = w7.heap.size := by rw [← hV]; simp [World.setCell]
                  have hV2 : V.heap[w.heap.size + 2]? = some (Obj.cells (tyC3 (5, 0, (some ⟨w7.heap.size + 1, 0, none⟩, 1, 1), .nil)) 28) := by rw [← hV]; exact set_ty (5, 0, (some ⟨w7.heap.size + 1, 0, none⟩, 1, 1), .nil) x2
                  have hVk : ∀ k, k ≠ w.heap.size + 2 → V.heap[k]? = w7.heap[k]? := fun k hk => by rw [← hV]; exact set_ty_other _ _ _ hk
                  have hVb : Below w.heap.size w V := by rw [← hV]; exact below_set3 hbw7 _ (by omega) _ _ _
                  have hal : ∀ (o1 o2 : Obj) (k : Nat), k < w7.heap.size → ((V.alloc o1).alloc o2).heap[k]? = V.heap[k]? := fun o1 o2 k hk => (Below.heap_alloc _ _ _ (by rw [World.size_alloc]; omega)).trans (Below.heap_alloc _ _ _ (by omega))
                  have hactE : acts [⟨false, lev, (some ⟨w7.heap.size + 1, 0, none⟩, 1, 1), [((t1.1, t1.2.1, (v1, v2, v3), t1.2.2) : Pt)]⟩] = [w7.heap.size + 1] := rfl
                  rw [hV]
                  refine ⟨j1, [((t1.1, t1.2.1, (v1, v2, v3), t1.2.2) : Pt)], (some ⟨w7.heap.size + 1, 0, none⟩, 1, 1), (t1.1, t1.2.1, (v1, v2, v3), t1.2.2), rfl, rfl, rfl, by omega, hps1.2, Nat.le_refl _, (Nat.le_of_ble_eq_true rfl : (1 : Nat) ≤ 8), fun o h => .open_ HSG.out hR1 h, (hal _ _ _ (by omega)).trans ((hVk _ (by omega)).trans x0), (hal _ _ _ (by omega)).trans ((hVk _ (by omega)).trans x1),
                    (hal _ _ _ (by omega)).trans hV2, ?_, by omega, ?_, ?_, (hVb.alloc (by omega) _).alloc (by rw [World.size_alloc]; omega) _⟩
                  · refine (Below.heap_alloc _ _ _ (by rw [World.size_alloc]; omega)).trans ?_
                    rw [← hVs]; exact heap_alloc_new V _
                  · rw [hactE]
                    refine ⟨fun m hm => ?_, fun m hm p hp => ?_⟩
                    · obtain rfl := List.mem_singleton.1 hm
                      have := own_full (V.alloc (.cells #[.int .i64 t1.1, .int .i64 t1.2.1, .slice v1 v2 v3] 28)) w.heap.size (by rw [World.size_alloc]; omega) 28 3 1 ([((t1.1, t1.2.1, (v1, v2, v3), t1.2.2) : Pt)].flatMap ptC) rfl (by unfold maxLen; omega)
                      rw [World.size_alloc, hVs] at this
                      exact this
                    · obtain rfl := List.mem_singleton.1 hm
                      obtain rfl := List.mem_singleton.1 hp
                      rw [hg1'] at hfr1
                      refine FinT.to (A' := [w.heap.size, w.heap.size + 1, w.heap.size + 2, w7.heap.size] ++ [w7.heap.size + 1]) (FinT.of_fresh (A := [w.heap.size, w.heap.size + 1, w.heap.size + 2]) hfr1 (by intro a ha; simp only [List.mem_cons, List.not_mem_nil, or_false] at ha; omega) (by omega)) (by rw [World.size_alloc, World.size_alloc]; omega) ?_
                      intro b cs _ hb hc
                      have hbl := (Array.getElem?_eq_some_iff.1 hc).1
                      simp only [List.mem_cons, List.not_mem_nil, or_false, not_or] at hb
                      refine ⟨?_, (hal _ _ _ hbl).trans ((hVk _ hb.2.2).trans hc)⟩
                      simp only [List.cons_append, List.nil_append, List.mem_cons, List.not_mem_nil, or_false, not_or]
                      omega
                  · rw [hactE]
                    intro b hb
                    obtain rfl := List.mem_singleton.1 hb
                    simp only [List.mem_cons, List.not_mem_nil, or_false, not_or]
                    omega
                case round =>
                  obtain ⟨j, L, ⟨va, vb, vc⟩, ⟨q0, q1, ⟨qa, qb, qc⟩, qf⟩, rfl, rfl, rfl, hij, hjm, hL1, hL8, hto, y0, y1, y2, y3, hg7, hfr, hact, hbwr⟩ := hrel
                  obtain ⟨b5, hb5⟩ : ∃ b, isB ts j 4 [42] = b := ⟨_, rfl⟩
                  have HC5 := Lib.hid (HIS.out j 4 ⟨#[42]⟩ [42] (by rw [toList_data]) wr hbwr)
                  rw [hb5] at HC5
                  rw [isB_sees] at hb5
                  have HB5 := Lib.hid hb5
                  have hlr : w7.heap.size < wr.heap.size := (Array.getElem?_eq_some_iff.1 y3).1
                  have HWR := Lib.hid (And.intro hto (And.intro y0 (And.intro y1 (And.intro y2 (And.intro y3 (And.intro hfr (And.intro hact hbwr)))))))
                  clear hb5 hto y0 y1 y2 y3 hfr hact hbwr
                  go_wp2_with fail
                  refine HC5.out.mono ?_
                  rintro e w8 ⟨rfl, hb8⟩
                  obtain ⟨hto, y0, y1, y2, y3, hfr, hact, hbwr⟩ := HWR.out
                  have x0 := (hb8.block _ (by omega)).trans y0
                  have x1 := (hb8.block _ (by omega)).trans y1
                  have x2 := (hb8.block _ (by omega)).trans y2
                  have x3 := (hb8.block _ (by omega)).trans y3
                  have hf8 := hfr.keep (keepT_below hb8)
                  have hbw8 : Below w.heap.size w w8 := hbwr.trans (hb8.mono (by omega))
                  have hl8 : w7.heap.size < w8.heap.size := (Array.getElem?_eq_some_iff.1 x3).1
                  cases b5 with
                  | false =>
                    have hs3 : (tkOf namedB ts).sg j ≠ 3 := fun h => by
                      have := (sg3 ts j).1 h
                      rw [HB5.out] at this
                      cases this
                    obtain ⟨b6, hb6⟩ : ∃ b, isB ts j 4 [41] = b := ⟨_, rfl⟩
                    have HC6 := Lib.hid (HIS.out j 4 ⟨#[41]⟩ [41] (by rw [toList_data]) w8 hbw8)
                    rw [hb6] at HC6
                    rw [isB_sees] at hb6
                    have HB6 := Lib.hid hb6
                    have HW8 := Lib.hid (And.intro x0 (And.intro x1 (And.intro x2 (And.intro x3 (And.intro hf8 (And.intro hbw8 (And.intro hto (And.intro hact hs3))))))))
                    clear hb6 hto y0 y1 y2 y3 hfr hact hbwr x0 x1 x2 x3 hf8 hbw8 hs3 hb8
                    go_wp2_with fail
                    refine HC6.out.mono ?_
                    rintro e w9 ⟨rfl, hb9⟩
                    obtain ⟨y0, y1, y2, y3, hf8, hbw8, hto, hact, hs3⟩ := HW8.out
                    have x0 := (hb9.block _ (by omega)).trans y0
                    have x1 := (hb9.block _ (by omega)).trans y1
                    have x2 := (hb9.block _ (by omega)).trans y2
                    have x3 := (hb9.block _ (by omega)).trans y3
                    have hf9 := hf8.keep (keepT_below hb9)
                    have hbw9 : Below w.heap.size w w9 := hbw8.trans (hb9.mono (by omega))
                    have hl9 : w7.heap.size < w9.heap.size := (Array.getElem?_eq_some_iff.1 x3).1
                    obtain ⟨r0, r1, r2⟩ := ty_cells x0
                    obtain ⟨s0, s1, s2⟩ := ty_cells x1
                    obtain ⟨z0, z1, z2⟩ := ty_cells x2
                    have rf0 := frozen_cells x0 0
                    have rf1 := frozen_cells x0 1
                    have rf2 := frozen_cells x0 2
                    dsimp only [slv, zP] at r0 r1 r2 s0 s1 s2 z0 z1 z2
                    cases b6 with
                    | false =>
                      have hs2 : (tkOf namedB ts).sg j ≠ 2 := fun h => by
                        have := (sg2 ts j).1 h
                        rw [HB6.out] at this
                        cases this
                      have HFIN := Lib.hid (And.intro hbw9 (Rf.bad (by omega : lev ≤ most) (hto _ (.form hs3 hs2))))
                      clear hto y0 y1 y2 y3 hact x0 x1 x2 x3 hf8 hf9 hbw8 hbw9 hs3 hb9 hs2
                      go_wp2_with fail
                      refine bodyPost_ret (results_box_tmp2 (p := 8) (q := 9) (r := 10) rfl _ _ _ _ rfl (put_ty 0 0 (none, 0, 0) r0 r1 r2)) rfl ?_
                      exact ⟨.err 3 j, (none, 0, 0), .nil, HFIN.out.2, rfl, rfl, fin_nil.fresh (A := []), below_set3 HFIN.out.1 _ (Nat.le_refl _) _ _ _, fun t j h => by cases h⟩
                    | true =>
                      have hs2 : (tkOf namedB ts).sg j = 2 := (sg2 ts j).2 HB6.out
                      obtain ⟨hj0, hjl⟩ := sees_in HB6.out
                      have e1 : IntKind.i64.wrap (j + 1) = j + 1 := IntWalk.i64_in _ (by omega)
                      have hrow := hf9.row _ (List.mem_singleton.2 rfl)
                      obtain ⟨gp, cp, cur, ev, hgB, hgh, hgc, _, _, _⟩ : ∃ (g cap : Nat) (cur : Array Value), slv (va, vb, vc) = .slice (some ⟨g, 0, none⟩) L.length cap ∧ w.heap.size ≤ g ∧ w9.heap[g]? = some (Obj.cells cur 28) ∧ L.length ≤ cap ∧ True ∧ True ∧ True := by
                        rcases hrow.2 with ⟨_, h0⟩ | ⟨g, cap, cur, ev, hgB, hh, hnc, _⟩
                        · have h0' : L.length = 0 := h0
                          omega
                        · exact ⟨g, cap, cur, ev, hgB, hh, hnc, trivial, trivial, trivial⟩
                      unfold slv at ev
                      dsimp only at ev
                      injection ev with ea eb ec
                      subst ea eb ec
                      have hRf := hto _ (.close (lev := lev) hs2)
                      have rh0 := frozen_cells x2 0
                      have rh1 := frozen_cells x2 1
                      have rh2 := frozen_cells x2 2
                      have HALL := Lib.hid (And.intro x0 (And.intro x1 (And.intro x2 (And.intro x3 (And.intro hf9 (And.intro hbw9 (And.intro hact (And.intro hRf hrow))))))))
                      by_cases hl1 : L.length = 1
                      · have hb1 : (((L.length : Nat) : Int) == 1) = true := by simp; omega
                        obtain ⟨⟨p0, p1, ⟨pa, pb, pc⟩, pf⟩, hLp⟩ : ∃ p, L = [p] := List.length_eq_one_iff.1 hl1
                        have k0 : w9.cell? ⟨gp, 0, none⟩ = some (.int .i64 p0) := by have := hrow.cells (g := gp) rfl 0 (.int .i64 p0) (by rw [hLp]; rfl); rwa [Addr.add_lit, Nat.zero_add] at this
                        have k1 : w9.cell? ⟨gp, 1, none⟩ = some (.int .i64 p1) := by have := hrow.cells (g := gp) rfl 1 (.int .i64 p1) (by rw [hLp]; rfl); rwa [Addr.add_lit, Nat.zero_add] at this
                        have k2 : w9.cell? ⟨gp, 2, none⟩ = some (.slice pa pb pc) := by have := hrow.cells (g := gp) rfl 2 (.slice pa pb pc) (by rw [hLp]; rfl); rwa [Addr.add_lit, Nat.zero_add] at this
                        have hgne : gp ≠ w.heap.size + 2 := by
                          have := hact gp (by simp only [acts, actB, slv, Value.ownBlock, List.flatMap_cons, List.flatMap_nil, List.append_nil, Option.toList, List.mem_singleton])
                          simp only [List.mem_cons, List.not_mem_nil, or_false, not_or] at this
                          omega
                        have hpos : (0 : Int) < (L.length : Nat) := by omega
                        have HLP := Lib.hid hLp
                        have HGH := Lib.hid hgh
                        clear hto y0 y1 y2 y3 hact x0 x1 x2 x3 hf8 hf9 hbw8 hbw9 hs3 hb9 hs2 hrow hRf hgh hl1 hLp
                        go_wp2_with fail
                        go_meet
                        case rel =>
                          obtain ⟨x0, x1, x2, x3, hf9, hbw9, hact, hRf, hrow⟩ := HALL.out
                          have hLp := HLP.out
                          have htup : tupTy (L.map ptP) = ptP (p0, p1, (pa, pb, pc), pf) := by rw [hLp]; rfl
                          rw [htup] at hRf
                          have hfp := (hf9.fin _ (List.mem_singleton.2 rfl) (p0, p1, (pa, pb, pc), pf) (by rw [hLp]; exact List.mem_singleton.2 rfl)).less (A' := [w.heap.size, w.heap.size + 1, w.heap.size + 2]) (fun b hb => List.mem_append_left _ (by simp only [List.mem_cons, List.not_mem_nil, or_false] at hb ⊢; omega))
                          refine ⟨(p0, p1, (pa, pb, pc), pf), j + 1, rfl, hRf, by omega, by omega, by omega, (set_ty_other _ _ _ (by omega)).trans x0, (set_ty_other _ _ _ (by omega)).trans x1, set_ty (p0, p1, (pa, pb, pc), pf) x2, ?_, below_set3 hbw9 _ (by omega) _ _ _⟩
                          refine hfp.to (by simp [World.setCell]) fun b cs _ hb hc => ⟨hb, (set_ty_other _ _ _ ?_).trans hc⟩
                          simp only [List.mem_cons, List.not_mem_nil, or_false, not_or] at hb
                          exact hb.2.2
                      · have hb1 : (((L.length : Nat) : Int) == 1) = false := by simp; omega
                        have HL1 := Lib.hid hl1
                        clear hto y0 y1 y2 y3 hact x0 x1 x2 x3 hf8 hf9 hbw8 hbw9 hs3 hb9 hs2 hrow hRf hgh hl1
                        go_wp2_with fail
                        go_meet
                        case rel =>
                          obtain ⟨x0, x1, x2, x3, hf9, hbw9, hact, hRf, hrow⟩ := HALL.out
                          have htk := FrI.take (X := [w.heap.size, w.heap.size + 1, w.heap.size + 2, w7.heap.size]) (ms := []) hf9 (by simp [acts, actB, slv, Value.ownBlock]) (fun b hb => hact b (by simp only [acts, List.flatMap_cons, List.flatMap_nil, List.append_nil, actB, Option.mem_toList]; exact hb))
                          have htup : tupTy (L.map ptP) = (5, 0, tyL (L.map ptP)) := by
                            match L, HL1.out, hL1 with
                            | [_], h, _ => exact absurd rfl h
                            | _ :: _ :: _, _, _ => rfl
                          rw [htup] at hRf
                          exact ⟨(5, 0, _, tyL (L.map ptP)), j + 1, rfl, hRf, by omega, by omega, by omega, x0, x1, x2, htk.2.2.less (fun b hb => List.mem_append_left _ (by simp only [List.mem_cons, List.not_mem_nil, or_false] at hb ⊢; omega)), hbw9⟩
                  | true =>
                    have hs3 : (tkOf namedB ts).sg j = 3 := (sg3 ts j).2 HB5.out
                    obtain ⟨hj0, hjl⟩ := sees_in HB5.out
                    have hlm' : lev ≤ most := by omega
                    by_cases h8 : 8 ≤ L.length
                    · obtain ⟨r0, r1, r2⟩ := ty_cells x0
                      obtain ⟨s0, s1, s2⟩ := ty_cells x1
                      obtain ⟨z0, z1, z2⟩ := ty_cells x2
                      have rf0 := frozen_cells x0 0
                      have rf1 := frozen_cells x0 1
                      have rf2 := frozen_cells x0 2
                      dsimp only [slv, zP] at r0 r1 r2 s0 s1 s2 z0 z1 z2
                      have hrow := hf8.row _ (List.mem_singleton.2 rfl)
                      obtain ⟨gp, cp, ev, hgB, hgl⟩ := own_shape hrow (show 0 < L.length by omega)
                      unfold slv at ev
                      dsimp only at ev
                      injection ev with ea eb ec
                      subst ea eb ec
                      have f8 : decide ((8 : Int) ≤ ((L.length : Nat) : Int)) = true := decide_eq_true (by omega)
                      have HFIN := Lib.hid (And.intro hbw8 (Rf.bad hlm' (hto _ (.many hs3 (by rw [List.length_map]; exact h8)))))
                      clear hto y0 y1 y2 y3 hfr hact hbwr x0 x1 x2 x3 hf8 hbw8 hs3 hb8 hrow
                      go_wp2_with fail
                      refine bodyPost_ret (results_box_tmp2 (p := 8) (q := 9) (r := 10) rfl _ _ _ _ rfl (put_ty 0 0 (none, 0, 0) r0 r1 r2)) rfl ?_
                      exact ⟨.err 6 j, (none, 0, 0), .nil, HFIN.out.2, rfl, rfl, fin_nil.fresh (A := []), below_set3 HFIN.out.1 _ (Nat.le_refl _) _ _ _, fun t j h => by cases h⟩
                    · have f8 : decide ((8 : Int) ≤ ((L.length : Nat) : Int)) = false := decide_eq_false (by omega)
                      obtain ⟨z0, z1, z2⟩ := ty_cells x2
                      dsimp only [slv, zP] at z0 z1 z2
                      have hrow := hf8.row _ (List.mem_singleton.2 rfl)
                      obtain ⟨gp, cp, ev, hgB, hgl⟩ := own_shape hrow (show 0 < L.length by omega)
                      unfold slv at ev
                      dsimp only at ev
                      injection ev with ea eb ec
                      subst ea eb ec
                      have e1 : IntKind.i64.wrap (j + 1) = j + 1 := IntWalk.i64_in _ (by omega)
                      have e2 : IntKind.i64.wrap (lev + 1) = lev + 1 := IntWalk.i64_in _ (by omega)
                      have HR := Lib.hid (HIH.out w8 hbw8 (j + 1) (lev + 1) (by omega) (by omega) (by omega))
                      have H8 := Lib.hid (And.intro x0 (And.intro x1 (And.intro x2 (And.intro x3 (And.intro hf8 (And.intro hbw8 (And.intro hto (And.intro hact (And.intro hs3 hrow)))))))))
                      clear hto y0 y1 y2 y3 hfr hact hbwr x0 x1 x2 x3 hf8 hbw8 hs3 hb8 hrow
                      go_wp2_with fail
                      refine HR.out.mono ?_
                      rintro e w9 ⟨o2, ⟨v1, v2, v3⟩, g2, hR2, rfl, hg2, hfr2, hb9, hps⟩
                      dsimp only [tyVal, slv]
                      obtain ⟨y0, y1, y2, y3, hf8, hbw8, hto, hact, hs3, hrow⟩ := H8.out
                      have x0 := (hb9.block _ (by omega)).trans y0
                      have x1 := (hb9.block _ (by omega)).trans y1
                      have x2 := (hb9.block _ (by omega)).trans y2
                      have x3 := (hb9.block _ (by omega)).trans y3
                      have hf9 := hf8.keep (keepT_below hb9)
                      have hbw9 : Below w.heap.size w w9 := hbw8.trans (hb9.mono (by omega))
                      have hl9 : w7.heap.size < w9.heap.size := (Array.getElem?_eq_some_iff.1 x3).1
                      have hla : w.heap.size < w9.heap.size := by omega
                      have hlb : w.heap.size + 1 < w9.heap.size := by omega
                      have hlc : w.heap.size + 2 < w9.heap.size := by omega
                      obtain ⟨r0, r1, r2⟩ := ty_cells x0
                      obtain ⟨s0, s1, s2⟩ := ty_cells x1
                      obtain ⟨z0, z1, z2⟩ := ty_cells x2
                      obtain ⟨q0', q1', q2'⟩ := ty_cells x3
                      have rf0 := frozen_cells x0 0
                      have rf1 := frozen_cells x0 1
                      have rf2 := frozen_cells x0 2
                      have rh2 := frozen_cells x2 2
                      have ri0 := frozen_cells x3 0
                      have ri1 := frozen_cells x3 1
                      have ri2 := frozen_cells x3 2
                      dsimp only [slv, zP] at r0 r1 r2 s0 s1 s2 z0 z1 z2 q0' q1' q2'
                      have hlen : (L.map ptP).length < 8 := by rw [List.length_map]; omega
                      cases o2 with
                      | err er j2 =>
                        have her := hR2.no er j2 rfl
                        have hne : (er != 0) = true := bne_iff_ne.2 her
                        have HFIN := Lib.hid (fun a b c a' b' c' => (below_set3 (below_set3 hbw9 w7.heap.size (by omega) a b c) w.heap.size (Nat.le_refl _) a' b' c' : Below w.heap.size w _))
                        have HBAD := Lib.hid (Rf.bad hlm' (hto _ (.mbad hs3 hlen hR2)))
                        clear y0 y1 y2 y3 hf8 hbw8 hto hact hs3 hrow x0 x1 x2 x3 hf9 hbw9 hfr2 hb9 hps hg2 her
                        dsimp only [Out.ty, Out.pos, Out.no]
                        go_wp2_with fail
                        refine bodyPost_ret (results_box_tmp2 (p := 8) (q := 9) (r := 10) rfl _ _ _ _ rfl (load_ty (k := 0) (n := 0) (u := (none, 0, 0)) (by go_simp) (by go_simp) (by unfold slv; go_simp))) rfl ?_
                        exact ⟨.err er j2, (none, 0, 0), .nil, HBAD.out, rfl, rfl, fin_nil.fresh (A := []), HFIN.out _ _ _ _ _ _, fun t j h => by cases h⟩
                      | done t2 j2 =>
                        have hne : ((0 : Int) != 0) = false := rfl
                        have hps2 := hps _ _ rfl
                        have hg2' : g2 = t2.2.2 := hg2
                        subst hg2'
                        obtain ⟨V, hV⟩ : ∃ V, ((w9.setCell ⟨w7.heap.size, 0, none⟩ (.int .i64 t2.1)).setCell ⟨w7.heap.size, 1, none⟩ (.int .i64 t2.2.1)).setCell ⟨w7.heap.size, 2, none⟩ (.slice v1 v2 v3) = V := ⟨_, rfl⟩
                        have hVs : V.heap.size = w9.heap.size := by rw [← hV]; simp [World.setCell]
                        have hV3 : V.heap[w7.heap.size]? = some (Obj.cells (tyC3 (t2.1, t2.2.1, (v1, v2, v3), t2.2.2)) 28) := by rw [← hV]; exact set_ty (t2.1, t2.2.1, (v1, v2, v3), t2.2.2) x3
                        have hVk : ∀ k, k ≠ w7.heap.size → V.heap[k]? = w9.heap[k]? := fun k hk => by rw [← hV]; exact set_ty_other _ _ _ hk
                        have hVb : Below w.heap.size w V := by rw [← hV]; exact below_set3 hbw9 _ (by omega) _ _ _
                        obtain ⟨W1, hW1⟩ : ∃ W1, V.alloc (.cells #[.int .i64 t2.1, .int .i64 t2.2.1, .slice v1 v2 v3] 28) = W1 := ⟨_, rfl⟩
                        have hW1s : W1.heap.size = w9.heap.size + 1 := by rw [← hW1, World.size_alloc, hVs]
                        have hW1k : ∀ k, k < w9.heap.size → W1.heap[k]? = V.heap[k]? := fun k hk => by rw [← hW1]; exact Below.heap_alloc _ _ _ (by omega)
                        have hgX : gp ≠ w7.heap.size ∧ gp ≠ w.heap.size ∧ gp ≠ w.heap.size + 1 ∧ gp ≠ w.heap.size + 2 := by
                          have := hact gp (by simp only [acts, actB, slv, Value.ownBlock, List.flatMap_cons, List.flatMap_nil, List.append_nil, Option.toList, List.mem_singleton])
                          simp only [List.mem_cons, List.not_mem_nil, or_false, not_or] at this
                          omega
                        have hX1 : ∀ m' ∈ [(⟨false, lev, (some ⟨gp, 0, none⟩, L.length, vc), L⟩ : MF)], ∀ b, (slv m'.v).ownBlock = some b → b ∉ [w.heap.size, w.heap.size + 1, w.heap.size + 2, w7.heap.size] := by
                          intro m' hm' b hb
                          obtain rfl := List.mem_singleton.1 hm'
                          simp only [slv, Value.ownBlock, Option.some.injEq] at hb
                          subst hb
                          simp only [List.mem_cons, List.not_mem_nil, or_false, not_or]
                          omega
                        have hkW : ∀ (b : Nat) (cs : Array Value), b ∉ [w.heap.size, w.heap.size + 1, w.heap.size + 2, w7.heap.size] → w9.heap[b]? = some (Obj.cells cs 28) → W1.heap[b]? = some (Obj.cells cs 28) := by
                          intro b cs hb hc
                          simp only [List.mem_cons, List.not_mem_nil, or_false, not_or] at hb
                          exact (hW1k b (Array.getElem?_eq_some_iff.1 hc).1).trans ((hVk b hb.2.2.2).trans hc)
                        have hfW := hf9.at_ (by omega) hkW hX1
                        have hown : W1.ownsRow w.heap.size 28 3 (slv (some ⟨gp, 0, none⟩, L.length, vc)) L.length (L.flatMap ptC) := hfW.row _ (List.mem_singleton.2 rfl)
                        have rd1 : Rd W1 3 (.slice (some ⟨V.heap.size, 0, none⟩) 1 1) 1 (ptC (t2.1, t2.2.1, (v1, v2, v3), t2.2.2)) := by
                          rw [← hW1]; exact rd_new V [.int .i64 t2.1, .int .i64 t2.2.1, .slice v1 v2 v3] 28 3 1 rfl (by unfold maxLen; omega)
                        obtain ⟨i0, hi0', hz0', hz1', hz2'⟩ := info_parts tyInfo
                        obtain ⟨v', w1, hrun, hown1, hg1, hat⟩ := run_append_rd (P := Tryd.prog) W1 w.heap.size 26 26 28 i0 _ 3 40 Tryd.underlying26 hi0' hz0' hz1' hz2' rfl (by omega) (slv (some ⟨gp, 0, none⟩, L.length, vc)) _ _ hown _ 1 _ rd1 (by simp [ptC, slv, Value.oneCell']) (by unfold maxLen; omega) (by omega) (by omega)
                        obtain ⟨g', cp', rfl, hg0', hgl'⟩ := own_shape hown1 (by omega)
                        have hrun2 : (app_ #[26, 26] 26 #[.slice (some ⟨gp, 0, none⟩) L.length vc, .slice (some ⟨V.heap.size, 0, none⟩) 1 1]).run Tryd.prog W1 = .ok (.slice (some ⟨g', 0, none⟩) (L.length + 1) cp') w1 := hrun
                        have hpW : FinT 28 w.heap.size ([w.heap.size, w.heap.size + 1, w.heap.size + 2, w7.heap.size] ++ acts ([] ++ [(⟨false, lev, (some ⟨gp, 0, none⟩, L.length, vc), L⟩ : MF)])) W1 t2.2.2 (v1, v2, v3) := by
                          refine FinT.to (A := [w.heap.size, w.heap.size + 1, w.heap.size + 2, w7.heap.size] ++ acts ([] ++ [(⟨false, lev, (some ⟨gp, 0, none⟩, L.length, vc), L⟩ : MF)])) (FinT.of_fresh hfr2 ?_ (by omega)) (by omega) fun b cs _ hb hc => ⟨hb, hkW b cs (fun hx => hb (List.mem_append_left _ hx)) hc⟩
                          intro a ha
                          rcases List.mem_append.1 ha with ha | ha
                          · simp only [List.mem_cons, List.not_mem_nil, or_false] at ha
                            omega
                          · simp only [acts, actB, slv, Value.ownBlock, List.nil_append, List.flatMap_cons, List.flatMap_nil, List.append_nil, Option.toList, List.mem_singleton] at ha
                            omega
                        have hput := FrI.put (ms := []) (X := [w.heap.size, w.heap.size + 1, w.heap.size + 2, w7.heap.size]) (p := (t2.1, t2.2.1, (v1, v2, v3), t2.2.2)) (v' := (some ⟨g', 0, none⟩, L.length + 1, cp')) hfW (by simp [acts, actB, slv, Value.ownBlock])
                          (by intro b hb; simp only [List.mem_cons, List.not_mem_nil, or_false] at hb; omega) hown1 hg1 hat hpW
                        have hg'X : g' ∉ [w.heap.size, w.heap.size + 1, w.heap.size + 2, w7.heap.size] := by
                          rcases hat with e | e
                          · have e : some g' = some gp := e
                            injection e with e
                            simp only [List.mem_cons, List.not_mem_nil, or_false, not_or]
                            omega
                          · have e : some g' = some W1.heap.size := e
                            injection e with e
                            simp only [List.mem_cons, List.not_mem_nil, or_false, not_or]
                            omega
                        have hk1 : ∀ k, k < w9.heap.size → k ≠ gp → w1.heap[k]? = V.heap[k]? := fun k hk hne => (hg1.block k (by omega) (fun e => hne (by injection e))).trans (hW1k k hk)
                        have u0 := (hk1 _ hla (by omega)).trans ((hVk _ (by omega)).trans x0)
                        have u1 := (hk1 _ hlb (by omega)).trans ((hVk _ (by omega)).trans x1)
                        have u2 := (hk1 _ hlc (by omega)).trans ((hVk _ (by omega)).trans x2)
                        have u3 := (hk1 _ hl9 (by omega)).trans hV3
                        have hw1s := hg1.size
                        have hbel1 : Below w.heap.size w w1 := by
                          refine (hVb.trans ?_).grown hg1 (by omega) (fun b hb => (hown.lt b hb).1)
                          rw [← hW1]; exact (Below.refl _ _).alloc (by omega) _
                        have hfin : TupOk (tkOf namedB ts) w i lev most w7.heap.size (.int .i64 j2) (.int .i64 j2) (.int .i64 0) (w1.setCell ⟨w.heap.size + 2, 2, none⟩ (.slice (some ⟨g', 0, none⟩) (L.length + 1) cp')) := by
                          have hno : ∀ k, k ≠ w.heap.size + 2 → (w1.setCell ⟨w.heap.size + 2, 2, none⟩ (.slice (some ⟨g', 0, none⟩) (L.length + 1) cp')).heap[k]? = w1.heap[k]? := fun k hk => Below.heap_setCell _ _ _ _ (by simpa using hk)
                          refine ⟨j2, L ++ [(t2.1, t2.2.1, (v1, v2, v3), t2.2.2)], (some ⟨g', 0, none⟩, L.length + 1, cp'), (t2.1, t2.2.1, (v1, v2, v3), t2.2.2), rfl, rfl, rfl, by omega, hps2.2, by rw [List.length_append, List.length_singleton]; omega, by rw [List.length_append, List.length_singleton]; omega, fun o h => hto o (.more hs3 hlen hR2 (by rw [List.map_append] at h; exact h)), (hno _ (by omega)).trans u0, (hno _ (by omega)).trans u1,
                            heap_setCell_same w1 (w.heap.size + 2) 2 _ _ _ u2, (hno _ (by omega)).trans u3, hg7, hput.1.at_ (by simp [World.setCell]) (fun b cs hb hc => (hno b (fun e => hb (by simp [e]))).trans hc) ?_, ?_, hbel1.setCell (p := ⟨w.heap.size + 2, 2, none⟩) (by simp) _⟩
                          · intro m' hm' b hb
                            obtain rfl := List.mem_singleton.1 hm'
                            simp only [slv, Value.ownBlock, Option.some.injEq] at hb
                            subst hb
                            exact hg'X
                          · intro b hb
                            simp only [acts, actB, slv, Value.ownBlock, List.flatMap_cons, List.flatMap_nil, List.append_nil, Option.toList, List.mem_singleton] at hb
                            subst hb
                            exact hg'X
                        have HFIN := Lib.hid hfin
                        have HPS := Lib.hid hps2
                        obtain ⟨u20, u21, u22⟩ := ty_cells u2
                        dsimp only [slv] at u20 u21 u22
                        have uf2 := frozen_cells u2 2
                        have hw1l : w.heap.size + 2 < w1.heap.size := by omega
                        rw [← hW1] at hrun2
                        rw [hVs] at hrun2
                        rw [← hV] at hrun2
                        clear hfin hbel1 u0 u1 u2 u3 hk1 hg'X hput hpW hrun hown1 hg1 hat rd1 hown hfW hkW hX1 hgX hW1k hW1s hW1 hVb hVk hV3 hVs hV
                        clear y0 y1 y2 y3 hf8 hbw8 hto hact hs3 hrow x0 x1 x2 x3 hf9 hbw9 hfr2 hb9 hps hps2
                        dsimp only [Out.ty, Out.pos, Out.no]
                        go_wp2_with fail
                        go_roundw
                        case rel => exact HFIN.out
                        case measure =>
                          have := HPS.out
                          simp only [intAt]
                          omega
      case rest =>
        obtain ⟨t, j, rfl, hA, hi0, hij, hjn, y0, y1, y2, hfT, hbc⟩ := hcut
        have hle : lev ≤ most := by omega
        obtain ⟨b4, hb4⟩ : ∃ b, isB ts j 4 [45, 62] = b := ⟨_, rfl⟩
        have HC := Lib.hid (HIS.out j 4 ⟨#[45, 62]⟩ [45, 62] (by rw [toList_data]) wc hbc)
        rw [hb4] at HC
        have hb4' := hb4
        rw [isB_sees] at hb4'
        have HB4 := Lib.hid hb4'
        have hl0 : w.heap.size + 2 < wc.heap.size := (Array.getElem?_eq_some_iff.1 y2).1
        have HY := Lib.hid (And.intro y0 (And.intro y1 (And.intro y2 (And.intro hfT (And.intro hbc hA)))))
        clear hb4 hb4' y0 y1 y2 hfT hbc hA hx0 hx1 hx2 hb3
        go_wp2_with fail
        refine HC.out.mono ?_
        rintro e w4 ⟨rfl, hb4⟩
        obtain ⟨y0, y1, y2, hfT, hbc, hA⟩ := HY.out
        have x0 := (hb4.block _ (by omega)).trans y0
        have x1 := (hb4.block _ (by omega)).trans y1
        have x2 := (hb4.block _ (by omega)).trans y2
        have hf4 := hfT.keep (keepT_below hb4)
        have hbw4 : Below w.heap.size w w4 := hbc.trans (hb4.mono (by omega))
        have hl4 : w.heap.size + 2 < w4.heap.size := (Array.getElem?_eq_some_iff.1 x2).1
        obtain ⟨t0, t1, ⟨ta, tb, tc⟩, tf⟩ := t
        obtain ⟨r0, r1, r2⟩ := ty_cells x0
        obtain ⟨s0, s1, s2⟩ := ty_cells x1
        obtain ⟨z0, z1, z2⟩ := ty_cells x2
        have rf0 := frozen_cells x0 0
        have rf1 := frozen_cells x0 1
        have rf2 := frozen_cells x0 2
        dsimp only [slv, zP] at r0 r1 r2 s0 s1 s2 z0 z1 z2
        clear y0 y1 y2 hfT hbc hb4
        cases b4 with
        | false =>
          have hn4 : (tkOf namedB ts).sg j ≠ 4 := fun h => by
            have := (sg4 ts j).1 h
            rw [HB4.out] at this
            cases this
          have hfin : RefPost (tkOf namedB ts) i lev most w (.returned (.tuple #[tyVal t0 t1 (.slice ta tb tc), .int .i64 j, .int .i64 0])) (((w4.setCell ⟨w.heap.size, 0, none⟩ (.int .i64 t0)).setCell ⟨w.heap.size, 1, none⟩ (.int .i64 t1)).setCell ⟨w.heap.size, 2, none⟩ (.slice ta tb tc)) := by
            refine ⟨.done (t0, t1, tf) j, (ta, tb, tc), tf, .plain hle hA hn4, rfl, rfl, (FinT.to (A' := []) hf4 (by simp [World.setCell]) fun b cs _ hb hc => ⟨by simp, (set_ty_other _ _ _ ?_).trans hc⟩).fresh, below_set3 hbw4 _ (Nat.le_refl _) _ _ _, fun t' j' h => by cases h; exact ⟨hij, by omega⟩⟩
            simp only [List.mem_cons, List.not_mem_nil, or_false, not_or] at hb
            exact hb.1
          have HFIN := Lib.hid hfin
          have HRR := Lib.hid (And.intro r0 (And.intro r1 r2))
          clear hfin hn4 x0 x1 x2 hf4 hbw4 hA
          go_wp2_with fail
          exact bodyPost_ret (results_box_tmp2 (p := 8) (q := 9) (r := 10) rfl _ _ _ _ rfl (put_ty t0 t1 (ta, tb, tc) HRR.out.1 HRR.out.2.1 HRR.out.2.2)) rfl HFIN.out
        | true =>
          have hj4 : (tkOf namedB ts).sg j = 4 := (sg4 ts j).2 HB4.out
          obtain ⟨hj0, hjl⟩ := sees_in HB4.out
          have e1 : IntKind.i64.wrap (j + 1) = j + 1 := IntWalk.i64_in _ (by omega)
          have e2 : IntKind.i64.wrap (lev + 1) = lev + 1 := IntWalk.i64_in _ (by omega)
          have HR := Lib.hid (HIH.out w4 hbw4 (j + 1) (lev + 1) (by omega) (by omega) (by omega))
          have H4 := Lib.hid (And.intro x0 (And.intro x1 (And.intro x2 (And.intro hf4 (And.intro hbw4 hA)))))
          clear x0 x1 x2 hf4 hbw4 hA r0 r1 r2 s0 s1 s2 z0 z1 z2 rf0 rf1 rf2
          go_wp2_with fail
          refine HR.out.mono ?_
          rintro e w5 ⟨o2, ⟨v1, v2, v3⟩, f2, hR2, rfl, hf2, hfr2, hb5, hps⟩
          dsimp only [tyVal, slv]
          obtain ⟨y0, y1, y2, hf4, hbw4, hA⟩ := H4.out
          have x0 := (hb5.block _ (by omega)).trans y0
          have x1 := (hb5.block _ (by omega)).trans y1
          have x2 := (hb5.block _ (by omega)).trans y2
          have hf5 := hf4.keep (keepT_below hb5)
          have hbw5 : Below w.heap.size w w5 := hbw4.trans (hb5.mono (by omega))
          have hl5 : w.heap.size + 2 < w5.heap.size := (Array.getElem?_eq_some_iff.1 x2).1
          obtain ⟨r0, r1, r2⟩ := ty_cells x0
          obtain ⟨s0, s1, s2⟩ := ty_cells x1
          obtain ⟨z0, z1, z2⟩ := ty_cells x2
          have rf0 := frozen_cells x0 0
          have rf1 := frozen_cells x0 1
          have rf2 := frozen_cells x0 2
          dsimp only [slv, zP] at r0 r1 r2 s0 s1 s2 z0 z1 z2
          cases o2 with
          | err er j2 =>
            have her := hR2.no er j2 rfl
            have hne : (er != 0) = true := bne_iff_ne.2 her
            have hla : w.heap.size < w5.heap.size := by omega
            have hlb : w.heap.size + 1 < w5.heap.size := by omega
            have rg0 := frozen_cells x1 0
            have rg1 := frozen_cells x1 1
            have rg2 := frozen_cells x1 2
            have hfin : ∀ a b c o, Below w.heap.size w ((((w5.setCell ⟨w.heap.size, 0, none⟩ a).setCell ⟨w.heap.size, 1, none⟩ b).setCell ⟨w.heap.size, 2, none⟩ c).alloc o) := fun a b c o => (below_set3 hbw5 _ (Nat.le_refl _) a b c).alloc (by simp [World.setCell]; omega) o
            have HFIN := Lib.hid hfin
            have HBAD := Lib.hid (Rf.abad hle hA hj4 hR2)
            clear y0 y1 y2 hf4 hbw4 hf5 hf2 hfr2 hb5 hps x2 z0 z1 z2 her hfin
            dsimp only [Out.ty, Out.pos, Out.no]
            go_wp2_with fail
            refine bodyPost_ret (results_box_tmp2 (p := 8) (q := 9) (r := 10) rfl _ _ _ _ rfl (load_ty (k := 0) (n := 0) (u := (none, 0, 0)) (by go_simp) (by go_simp) (by unfold slv; go_simp))) rfl ?_
            exact ⟨.err er j2, (none, 0, 0), .nil, HBAD.out, rfl, rfl, fin_nil.fresh (A := []), HFIN.out _ _ _ _, fun t j h => by cases h⟩
          | done t2 j2 =>
            have hne : ((0 : Int) != 0) = false := rfl
            have hla : w.heap.size < w5.heap.size := by omega
            have hlb : w.heap.size + 1 < w5.heap.size := by omega
            have rg0 := frozen_cells x1 0
            have rg1 := frozen_cells x1 1
            have rg2 := frozen_cells x1 2
            have rh0 := frozen_cells x2 0
            have rh1 := frozen_cells x2 1
            have rh2 := frozen_cells x2 2
            have HK := Lib.hid (And.intro hf5 (And.intro hfr2 (And.intro hb5 (And.intro hbw5 hps))))
            clear y0 y1 y2 hf4 hbw4 hf5 hfr2 hb5 hbw5 hps x0 x1 x2
            dsimp only [Out.ty, Out.pos, Out.no]
            go_wp2_with fail
            refine bodyPost_ret (results_box_tmp2 (p := 8) (q := 9) (r := 10) rfl _ _ _ _ rfl (load_ty (k := 4) (n := 0) (u := (some ⟨w5.heap.size + 1, 0, none⟩, 2, 2)) (by go_simp) (by go_simp) (by unfold slv; go_simp))) rfl ?_
            obtain ⟨hf5, hfr2, hb5, hbw5, hps⟩ := HK.out
            have hf2' : f2 = t2.2.2 := hf2
            subst hf2'
            refine ⟨.done (arrT (ptP (t0, t1, (ta, tb, tc), tf)) t2) j2, (some ⟨w5.heap.size + 1, 0, none⟩, 2, 2), _, .arrow hle hA hj4 hR2, rfl, rfl, ?_, ?_, ?_⟩
            · refine FinT.fresh (A := []) ?_
              have hown := own_full (((((w5.setCell ⟨w.heap.size, 0, none⟩ (.int .i64 4)).setCell ⟨w.heap.size, 1, none⟩ (.int .i64 0)).setCell ⟨w.heap.size, 2, none⟩ (.slice (some ⟨w5.heap.size + 1, 0, none⟩) 2 2)).alloc (.cells #[.int .i64 t2.1, .int .i64 t2.2.1, .slice v1 v2 v3] 28))) w.heap.size (by simp [World.setCell, World.size_alloc]; omega) 28 3 2
                ([((t0, t1, (ta, tb, tc), tf) : Pt), (t2.1, t2.2.1, (v1, v2, v3), t2.2.2)].flatMap ptC) (by simp [ptC]) (by unfold maxLen; omega)
              have hsz : (((((w5.setCell ⟨w.heap.size, 0, none⟩ (.int .i64 4)).setCell ⟨w.heap.size, 1, none⟩ (.int .i64 0)).setCell ⟨w.heap.size, 2, none⟩ (.slice (some ⟨w5.heap.size + 1, 0, none⟩) 2 2)).alloc (.cells #[.int .i64 t2.1, .int .i64 t2.2.1, .slice v1 v2 v3] 28))).heap.size = w5.heap.size + 1 := by simp [World.setCell, World.size_alloc]
              rw [hsz] at hown
              refine fin_row (A := [w.heap.size, w.heap.size + 1, w.heap.size + 2]) (L := [((t0, t1, (ta, tb, tc), tf) : Pt), (t2.1, t2.2.1, (v1, v2, v3), t2.2.2)]) hown ?_ (fun b hb => by cases hb) (fun b _ hb => by cases hb)
              have hkp : ∀ (o1 o2 : Obj) (b : Nat) (cs : Array Value), w.heap.size ≤ b → b ∉ [w.heap.size, w.heap.size + 1, w.heap.size + 2] → w5.heap[b]? = some (Obj.cells cs 28) → b ∉ [w.heap.size, w.heap.size + 1, w.heap.size + 2] ∧
                  (((((w5.setCell ⟨w.heap.size, 0, none⟩ (.int .i64 4)).setCell ⟨w.heap.size, 1, none⟩ (.int .i64 0)).setCell ⟨w.heap.size, 2, none⟩ (.slice (some ⟨w5.heap.size + 1, 0, none⟩) 2 2)).alloc o1).alloc o2).heap[b]? = some (Obj.cells cs 28) := by
                intro o1 o2 b cs _ hb hc
                have hbl := (Array.getElem?_eq_some_iff.1 hc).1
                refine ⟨hb, (Below.heap_alloc _ _ _ (by simp [World.setCell, World.size_alloc]; omega)).trans ((Below.heap_alloc _ _ _ (by simpa [World.setCell] using hbl)).trans ((set_ty_other _ _ _ ?_).trans hc))⟩
                simp only [List.mem_cons, List.not_mem_nil, or_false, not_or] at hb
                exact hb.1
              intro p hp
              simp only [List.mem_cons, List.not_mem_nil, or_false] at hp
              rcases hp with rfl | rfl
              · exact FinT.to (A' := [w.heap.size, w.heap.size + 1, w.heap.size + 2]) hf5 (by simp [World.setCell, World.size_alloc]; omega) (hkp _ _)
              · exact FinT.to (A' := [w.heap.size, w.heap.size + 1, w.heap.size + 2]) (FinT.of_fresh (A := [w.heap.size, w.heap.size + 1, w.heap.size + 2]) hfr2 (by intro a ha; simp only [List.mem_cons, List.not_mem_nil, or_false] at ha; omega) (by omega)) (by simp [World.setCell, World.size_alloc]; omega) (hkp _ _)
            · exact ((below_set3 hbw5 _ (Nat.le_refl _) _ _ _).alloc (by simp [World.setCell]; omega) _).alloc (by simp [World.setCell, World.size_alloc]; omega) _
            · intro t j' h
              cases h
              have := hps _ _ rfl
              omega
end Go.Proofs.YtjmbkkpglkbppaaDoor
