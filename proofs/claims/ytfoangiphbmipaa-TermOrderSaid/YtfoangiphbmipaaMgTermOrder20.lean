/- Texts of one proof, one behind the other. -/
import Derived.Test.YtfoangiphbmipaaMgTermOrder8
import Derived.Test.YtfoangiphbmipaaMgTermOrder16
import Derived.Test.YtfoangiphbmipaaMgTermOrder15
import Derived.Test.YtfoangiphbmipaaMgTermOrder19
import Derived.Test.YtfoangiphbmipaaMgTermOrder17
/- What makes a term right, but for its parts. -/
namespace Go.Proofs.Ytfoangiphbmipaa
open Go.RowKit

/-- Has a kind a name? -/
def nmd (k : Int) : Bool := k == 1 || (k == 4 || (k == 6 || k == 7))
def nmB (x : Nd) : Bool := if nmd x.k then nameB (bs x.s) else x.s.toList.isEmpty
def nuB (x : Nd) : Bool := if x.k == 1 then decide (0 ≤ x.n) else if x.k == 2 then decide (0 ≤ x.n) && decide (x.n < 1000000000) else if x.k == 3 then x.n == 0 || x.n == 1 else x.n == 0
def tyB (x : Nd) : Bool := if x.k == 10 then allAlone (Fo.cons x.tk x.tn x.tu x.ty .nil).pre && (varsL [] (Fo.cons x.tk x.tn x.tu x.ty .nil).pre).isEmpty else x.tk == 0 && x.tn == 0 && x.ty.same .nil
def paB (x : Nd) (n : Nat) : Bool := if x.k == 1 || (x.k == 2 || x.k == 3) then (n : Int) == 0 else if x.k == 4 || x.k == 10 then (n : Int) == 1 else if x.k == 5 || (x.k == 6 || x.k == 7) then (n : Int) == 2 else if x.k == 8 then (n : Int) == 3 else if x.k == 9 then decide ((2 : Int) ≤ n) && decide ((n : Int) ≤ 8) else false
def aloneE (t : Tm) : Bool := nmB t.1 && (nuB t.1 && (tyB t.1 && paB t.1 t.2.len))
set_option maxHeartbeats 2000000 in
set_option maxRecDepth 100000 in
theorem nameRight_any (x : Nd) (w : World) (hs : x.s.size ≤ maxLen) :
    Calls Try.prog 30 #[teVal x] w fun e w' => e = .returned (.bool (nmB x)) ∧ Below w.heap.size w w' := by
  obtain ⟨x0, x1, x2, x3, x4, ⟨xu1, xu2, xu3⟩, x6, ⟨xv1, xv2, xv3⟩, x8, x9⟩ := x
  have hN : ∀ w1, Calls Try.prog 38 #[.string x1] w1 fun e w' => e = .returned (.bool (nameB (bs x1))) ∧ w1 = w' := fun w1 => lname_any x1 w1 hs
  have HN := Lib.hid hN
  obtain ⟨R, hR⟩ : ∃ R, nmB ⟨x0, x1, x2, x3, x4, (xu1, xu2, xu3), x6, (xv1, xv2, xv3), x8, x9⟩ = R := ⟨_, rfl⟩
  rw [hR]
  have hb0 := Lib.hid (show ∀ (cs : Array Value) (t : TypeId), Below w.heap.size w (w.alloc (Obj.cells cs t)) from fun cs t => (Below.refl _ w).alloc (Nat.le_refl _) _)
  dsimp only [teVal, slv]
  unfold nmB nmd at hR
  dsimp only at hR
  obtain ⟨b1, hb1⟩ : ∃ b, (x0 == 1) = b := ⟨_, rfl⟩
  obtain ⟨b4, hb4⟩ : ∃ b, (x0 == 4) = b := ⟨_, rfl⟩
  obtain ⟨b6, hb6⟩ : ∃ b, (x0 == 6) = b := ⟨_, rfl⟩
  obtain ⟨b7, hb7⟩ : ∃ b, (x0 == 7) = b := ⟨_, rfl⟩
  rw [hb1, hb4, hb6, hb7] at hR
  have HR := Lib.hid hR
  clear hR hN hs
  cases b1
  case' true =>
    go_enter Try.func30, Try.ntmps30
    go_wp2_with (go_at_call 38; refine (HN.out _).mono ?_; rintro e w' ⟨rfl, rfl⟩)
    go_ret
    exact ⟨ret_bool (by rw [← HR.out]; rfl), hb0.out _ _⟩
  cases b4
  case' true =>
    go_enter Try.func30, Try.ntmps30
    go_wp2_with (go_at_call 38; refine (HN.out _).mono ?_; rintro e w' ⟨rfl, rfl⟩)
    go_ret
    exact ⟨ret_bool (by rw [← HR.out]; rfl), hb0.out _ _⟩
  cases b6
  case' true =>
    go_enter Try.func30, Try.ntmps30
    go_wp2_with (go_at_call 38; refine (HN.out _).mono ?_; rintro e w' ⟨rfl, rfl⟩)
    go_ret
    exact ⟨ret_bool (by rw [← HR.out]; rfl), hb0.out _ _⟩
  cases b7
  case' true =>
    go_enter Try.func30, Try.ntmps30
    go_wp2_with (go_at_call 38; refine (HN.out _).mono ?_; rintro e w' ⟨rfl, rfl⟩)
    go_ret
    exact ⟨ret_bool (by rw [← HR.out]; rfl), hb0.out _ _⟩
  obtain ⟨e, he⟩ : ∃ e, x1.toList.isEmpty = e := ⟨_, rfl⟩
  go_enter Try.func30, Try.ntmps30
  go_wp2_with (go_at_call 38; refine (HN.out _).mono ?_; rintro e w' ⟨rfl, rfl⟩)
  go_ret
  refine ⟨ret_bool ?_, hb0.out _ _⟩
  rw [← HR.out, he]
  rfl
set_option maxHeartbeats 2000000 in
set_option maxRecDepth 100000 in
theorem numberRight_any (x : Nd) (w : World) :
    Calls Try.prog 31 #[teVal x] w fun e w' => e = .returned (.bool (nuB x)) ∧ Below w.heap.size w w' := by
  obtain ⟨x0, x1, x2, x3, x4, ⟨xu1, xu2, xu3⟩, x6, ⟨xv1, xv2, xv3⟩, x8, x9⟩ := x
  obtain ⟨R, hR⟩ : ∃ R, nuB ⟨x0, x1, x2, x3, x4, (xu1, xu2, xu3), x6, (xv1, xv2, xv3), x8, x9⟩ = R := ⟨_, rfl⟩
  try dsimp only
  rw [hR]
  have hb0 := Lib.hid (show ∀ (cs : Array Value) (t : TypeId), Below w.heap.size w (w.alloc (Obj.cells cs t)) from fun cs t => (Below.refl _ w).alloc (Nat.le_refl _) _)
  dsimp only [teVal, slv]
  unfold nuB at hR
  try dsimp only at hR
  obtain ⟨b1, hb1⟩ : ∃ b, (x0 == 1) = b := ⟨_, rfl⟩
  obtain ⟨b2, hb2⟩ : ∃ b, (x0 == 2) = b := ⟨_, rfl⟩
  obtain ⟨b3, hb3⟩ : ∃ b, (x0 == 3) = b := ⟨_, rfl⟩
  rw [hb1, hb2, hb3] at hR
  have HR := Lib.hid hR
  clear hR
  cases b1
  case' true =>
    go_enter Try.func31, Try.ntmps31
    go_wp2_with fail
    all_goals
      go_ret
      refine ⟨ret_bool ?_, hb0.out _ _⟩
      rw [← HR.out]
      first | (simp_all; done) | (simp_all; omega)
  cases b2
  case' true =>
    go_enter Try.func31, Try.ntmps31
    go_wp2_with fail
    all_goals
      go_ret
      refine ⟨ret_bool ?_, hb0.out _ _⟩
      rw [← HR.out]
      first | (simp_all; done) | (simp_all; omega)
  cases b3
  case' true =>
    go_enter Try.func31, Try.ntmps31
    go_wp2_with fail
    all_goals
      go_ret
      refine ⟨ret_bool ?_, hb0.out _ _⟩
      rw [← HR.out]
      first | (simp_all; done) | (simp_all; omega)
  · go_enter Try.func31, Try.ntmps31
    go_wp2_with fail
    all_goals
      go_ret
      refine ⟨ret_bool ?_, hb0.out _ _⟩
      rw [← HR.out]
      first | (simp_all; done) | (simp_all; omega)
set_option maxHeartbeats 2000000 in
set_option maxRecDepth 100000 in
theorem partsRight_any (x : Nd) (w : World) :
    Calls Try.prog 33 #[teVal x] w fun e w' => e = .returned (.bool (paB x x.u.2.1)) ∧ Below w.heap.size w w' := by
  obtain ⟨x0, x1, x2, x3, x4, ⟨xu1, xu2, xu3⟩, x6, ⟨xv1, xv2, xv3⟩, x8, x9⟩ := x
  obtain ⟨R, hR⟩ : ∃ R, paB ⟨x0, x1, x2, x3, x4, (xu1, xu2, xu3), x6, (xv1, xv2, xv3), x8, x9⟩ xv2 = R := ⟨_, rfl⟩
  try dsimp only
  rw [hR]
  have hb0 := Lib.hid (show ∀ (cs : Array Value) (t : TypeId), Below w.heap.size w (w.alloc (Obj.cells cs t)) from fun cs t => (Below.refl _ w).alloc (Nat.le_refl _) _)
  dsimp only [teVal, slv]
  unfold paB at hR
  dsimp only at hR
  obtain ⟨b1, hb1⟩ : ∃ b, (x0 == 1) = b := ⟨_, rfl⟩
  obtain ⟨b2, hb2⟩ : ∃ b, (x0 == 2) = b := ⟨_, rfl⟩
  obtain ⟨b3, hb3⟩ : ∃ b, (x0 == 3) = b := ⟨_, rfl⟩
  obtain ⟨b4, hb4⟩ : ∃ b, (x0 == 4) = b := ⟨_, rfl⟩
  obtain ⟨b5, hb5⟩ : ∃ b, (x0 == 5) = b := ⟨_, rfl⟩
  obtain ⟨b6, hb6⟩ : ∃ b, (x0 == 6) = b := ⟨_, rfl⟩
  obtain ⟨b7, hb7⟩ : ∃ b, (x0 == 7) = b := ⟨_, rfl⟩
  obtain ⟨b8, hb8⟩ : ∃ b, (x0 == 8) = b := ⟨_, rfl⟩
  obtain ⟨b9, hb9⟩ : ∃ b, (x0 == 9) = b := ⟨_, rfl⟩
  obtain ⟨b10, hb10⟩ : ∃ b, (x0 == 10) = b := ⟨_, rfl⟩
  rw [hb1, hb2, hb3, hb4, hb5, hb6, hb7, hb8, hb9, hb10] at hR
  have HR := Lib.hid hR
  clear hR
  cases b1
  case' true =>
    go_enter Try.func33, Try.ntmps33
    go_wp2_with fail
    all_goals
      go_ret
      refine ⟨ret_bool ?_, hb0.out _ _⟩
      rw [← HR.out]
      first | (simp_all; done) | (simp_all; omega)
  cases b2
  case' true =>
    go_enter Try.func33, Try.ntmps33
    go_wp2_with fail
    all_goals
      go_ret
      refine ⟨ret_bool ?_, hb0.out _ _⟩
      rw [← HR.out]
      first | (simp_all; done) | (simp_all; omega)
  cases b3
  case' true =>
    go_enter Try.func33, Try.ntmps33
    go_wp2_with fail
    all_goals
      go_ret
      refine ⟨ret_bool ?_, hb0.out _ _⟩
      rw [← HR.out]
      first | (simp_all; done) | (simp_all; omega)
  cases b4
  case' true =>
    go_enter Try.func33, Try.ntmps33
    go_wp2_with fail
    all_goals
      go_ret
      refine ⟨ret_bool ?_, hb0.out _ _⟩
      rw [← HR.out]
      first | (simp_all; done) | (simp_all; omega)
  cases b10
  case' true =>
    go_enter Try.func33, Try.ntmps33
    go_wp2_with fail
    all_goals
      go_ret
      refine ⟨ret_bool ?_, hb0.out _ _⟩
      rw [← HR.out]
      first | (simp_all; done) | (simp_all; omega)
  cases b5
  case' true =>
    go_enter Try.func33, Try.ntmps33
    go_wp2_with fail
    all_goals
      go_ret
      refine ⟨ret_bool ?_, hb0.out _ _⟩
      rw [← HR.out]
      first | (simp_all; done) | (simp_all; omega)
  cases b6
  case' true =>
    go_enter Try.func33, Try.ntmps33
    go_wp2_with fail
    all_goals
      go_ret
      refine ⟨ret_bool ?_, hb0.out _ _⟩
      rw [← HR.out]
      first | (simp_all; done) | (simp_all; omega)
  cases b7
  case' true =>
    go_enter Try.func33, Try.ntmps33
    go_wp2_with fail
    all_goals
      go_ret
      refine ⟨ret_bool ?_, hb0.out _ _⟩
      rw [← HR.out]
      first | (simp_all; done) | (simp_all; omega)
  cases b8
  case' true =>
    go_enter Try.func33, Try.ntmps33
    go_wp2_with fail
    all_goals
      go_ret
      refine ⟨ret_bool ?_, hb0.out _ _⟩
      rw [← HR.out]
      first | (simp_all; done) | (simp_all; omega)
  cases b9
  case' true =>
    go_enter Try.func33, Try.ntmps33
    go_wp2_with fail
    all_goals
      go_ret
      refine ⟨ret_bool ?_, hb0.out _ _⟩
      rw [← HR.out]
      first | (simp_all; done) | (simp_all; omega)
  · go_enter Try.func33, Try.ntmps33
    go_wp2_with fail
    all_goals
      go_ret
      refine ⟨ret_bool ?_, hb0.out _ _⟩
      rw [← HR.out]
      first | (simp_all; done) | (simp_all; omega)
set_option maxHeartbeats 2000000 in
set_option maxRecDepth 100000 in
theorem typeRight_any (x : Nd) (w : World) (h : TyV w.heap.size w x.ty (slv x.tu)) (hs : x.ty.size < 90000) (hwf : x.ty.wf) (hn : (Lit.int .i64 x.tn).wf = true) :
    Calls Try.prog 32 #[teVal x] w fun e w' => e = .returned (.bool (tyB x)) ∧ Below w.heap.size w w' := by
  have hR1 : ∀ w1 : World, Below w.heap.size w w1 → Calls Try.prog 39 #[.agg #[.int .i64 x.tk, .int .i64 x.tn, slv x.tu]] w1 fun e w' => e = .returned (.bool (allAlone (Fo.cons x.tk x.tn x.tu x.ty .nil).pre)) ∧ Below w1.heap.size w1 w' := fun w1 hb =>
    right_any w1 w1.heap.size x.tk x.tn x.tu x.ty (Nat.le_refl _) (h.up hb hb.size) (by omega)
  have hV1 : ∀ w1 w2 : World, Below w.heap.size w w1 → w1.alloc (.cells #[.int .i64 x.tk, .int .i64 x.tn, slv x.tu] 24) = w2 → Calls Try.prog 40 #[.slice (some ⟨w1.heap.size, 0, none⟩) 1 1] w2 (IsInts (varsL [] (Fo.cons x.tk x.tn x.tu x.ty .nil).pre) w2) := fun w1 w2 hb e => by
    have hb2 : Below w1.heap.size w1 w2 := by rw [← e]; exact (Below.refl _ _).alloc (Nat.le_refl _) _
    have hs2 : w2.heap.size = w1.heap.size + 1 := by rw [← e]; simp
    have hh : w2.heap[w1.heap.size]? = some (.cells #[.int .i64 x.tk, .int .i64 x.tn, slv x.tu] 24) := by rw [← e]; exact heap_alloc_new _ _
    refine vars_any w2 w2.heap.size (Fo.cons x.tk x.tn x.tu x.ty .nil) _ (Nat.le_refl _) (tyV_cons.2 ⟨w1.heap.size, 0, 1, rfl, by simp [Fo.len], by unfold maxLen; omega, by omega, tyC_cons.2 ⟨cell_of_row w2 _ 0 _ _ (0, 0) hh, cell_of_row w2 _ 1 _ _ (0, 0) hh, cell_of_row w2 _ 2 _ _ (0, 0) hh, ?_, tyC_nil⟩⟩) (by simp [Fo.size]; omega) ⟨hn, hwf, trivial⟩
    exact (h.up hb hb.size).up hb2 hb2.size
  have hS1 : ∀ w1 : World, Below w.heap.size w w1 → Calls Try.prog 41 #[.agg #[.int .i64 x.tk, .int .i64 x.tn, slv x.tu], .agg #[.int .i64 0, .int .i64 0, .slice none 0 0]] w1 fun e w' => e = .returned (.bool (x.tk == 0 && x.tn == 0 && x.ty.same .nil)) ∧ Below w1.heap.size w1 w' := fun w1 hb =>
    same_any w1 x.tk x.tn 0 0 x.tu (none, 0, 0) x.ty .nil (h.up hb hb.size) (tyV_nil.2 ⟨none, 0, rfl⟩) (by omega) (by simp [Fo.size])
  obtain ⟨rr, hrr⟩ : ∃ rr, allAlone (Fo.cons x.tk x.tn x.tu x.ty .nil).pre = rr := ⟨_, rfl⟩
  obtain ⟨vv, hvv⟩ : ∃ vv, varsL [] (Fo.cons x.tk x.tn x.tu x.ty .nil).pre = vv := ⟨_, rfl⟩
  obtain ⟨ss, hss⟩ : ∃ ss, (x.tk == 0 && x.tn == 0 && x.ty.same .nil) = ss := ⟨_, rfl⟩
  obtain ⟨R, hR⟩ : ∃ R, tyB x = R := ⟨_, rfl⟩
  rw [hR]
  unfold tyB at hR
  rw [hrr, hvv, hss] at hR
  rw [hrr] at hR1
  rw [hvv] at hV1
  rw [hss] at hS1
  obtain ⟨x0, x1, x2, x3, x4, ⟨xu1, xu2, xu3⟩, x6, ⟨xv1, xv2, xv3⟩, x8, x9⟩ := x
  dsimp only [slv, teVal] at hR1 hV1 hS1 hR ⊢
  have H1 := Lib.hid hR1
  have H2 := Lib.hid hV1
  have H3 := Lib.hid hS1
  obtain ⟨w0, hw0⟩ : ∃ w0, w.alloc (Obj.cells #[.int .i64 x0, .string x1, .int .i64 x2, .int .i64 x3, .int .i64 x4, .slice xu1 xu2 xu3, .slice xv1 xv2 xv3, .int .i64 x8, .int .i64 x9] 29) = w0 := ⟨_, rfl⟩
  have hb0 : Below w.heap.size w w0 := by rw [← hw0]; exact (Below.refl _ w).alloc (Nat.le_refl _) _
  have hs0 : w0.heap.size = w.heap.size + 1 := by rw [← hw0]; simp
  have hh0 : w0.heap[w.heap.size]? = some (Obj.cells #[.int .i64 x0, .string x1, .int .i64 x2, .int .i64 x3, .int .i64 x4, .slice xu1 xu2 xu3, .slice xv1 xv2 xv3, .int .i64 x8, .int .i64 x9] 29) := by rw [← hw0]; exact heap_alloc_new w (Obj.cells #[.int .i64 x0, .string x1, .int .i64 x2, .int .i64 x3, .int .i64 x4, .slice xu1 xu2 xu3, .slice xv1 xv2 xv3, .int .i64 x8, .int .i64 x9] 29)
  have hc1 := hR1 w0 hb0
  have hc3 := hS1 w0 hb0
  rw [← hw0] at hc1 hc3
  have HC1 := Lib.hid hc1
  have HC3 := Lib.hid hc3
  have HW := Lib.hid (And.intro hw0 (And.intro hb0 (And.intro hs0 hh0)))
  clear h hs hwf hn hrr hvv hss hc1 hc3 hw0 hb0 hs0 hh0 hR1 hV1 hS1
  obtain ⟨b10, hb10⟩ : ∃ b, (x0 == 10) = b := ⟨_, rfl⟩
  rw [hb10] at hR
  have HR := Lib.hid hR
  clear hR
  cases b10
  · go_enter Try.func32, Try.ntmps32
    go_wp2_with fail
    refine HC3.out.mono ?_
    rintro e w2 ⟨rfl, hb2⟩
    rw [HW.out.1] at hb2
    have HB2 := Lib.hid (show Below w.heap.size w w2 from HW.out.2.1.trans (hb2.mono HW.out.2.1.size))
    clear hb2
    go_wp2_with fail
    go_ret
    exact ⟨ret_bool (by rw [← HR.out]; rfl), HB2.out⟩
  · go_enter Try.func32, Try.ntmps32
    go_wp2_with fail
    refine HC1.out.mono ?_
    rintro e w2 ⟨rfl, hb2⟩
    rw [HW.out.1] at hb2
    have hk2 := (hb2.block w.heap.size (by have := HW.out.2.2.1; omega)).trans HW.out.2.2.2
    have c3 : w2.cell? ⟨w.heap.size, 3, none⟩ = some (.int .i64 x3) := cell_of_row w2 _ 3 _ _ (0, 0) hk2
    have c4 : w2.cell? ⟨w.heap.size, 4, none⟩ = some (.int .i64 x4) := cell_of_row w2 _ 4 _ _ (0, 0) hk2
    have c5 : w2.cell? ⟨w.heap.size, 5, none⟩ = some (.slice xu1 xu2 xu3) := cell_of_row w2 _ 5 _ _ (0, 0) hk2
    have HB2 := Lib.hid (show Below w.heap.size w w2 from HW.out.2.1.trans (hb2.mono HW.out.2.1.size))
    clear hb2 hk2
    cases rr
    · go_wp2_with fail
      go_ret
      exact ⟨ret_bool (by rw [← HR.out]; rfl), HB2.out⟩
    · have hc2 := H2.out w2 _ HB2.out rfl
      have HC2 := Lib.hid hc2
      clear hc2
      go_wp2_with fail
      refine HC2.out.mono ?_
      rintro e w3 ⟨v, rfl, hrd, hb3⟩
      obtain ⟨A, c, rfl⟩ := hrd.form
      have HB3 := Lib.hid (show Below w.heap.size w w3 from HB2.out.trans (((Below.refl w2.heap.size w2).alloc (Nat.le_refl _) _ |>.mono HB2.out.size).trans (hb3.mono (by simp only [World.size_alloc]; have := HB2.out.size; omega))))
      clear hrd hb3
      have hl : ((vv.length : Int) == 0) = vv.isEmpty := by cases vv <;> simp <;> omega
      have HL := Lib.hid hl
      clear hl
      obtain ⟨z, hz⟩ : ∃ z, ((vv.length : Int) == 0) = z := ⟨_, rfl⟩
      have HZ := Lib.hid (show z = vv.isEmpty by rw [← hz]; exact HL.out)
      go_wp2_with fail
      go_ret
      exact ⟨ret_bool (by rw [HZ.out, ← HR.out]; rfl), HB3.out⟩
set_option maxHeartbeats 2000000 in
set_option maxRecDepth 100000 in
theorem rightAlone_any (x : Nd) (ps : Te) (w : World) (h : TmL w.heap.size w (x, ps)) (hn60 : x.s.size ≤ 60) (hs : x.ty.size < 90000) (hwf : x.ty.wf) (hn : (Lit.int .i64 x.tn).wf = true) :
    Calls Try.prog 24 #[teVal x] w fun e w' => e = .returned (.bool (aloneE (x, ps))) ∧ Below w.heap.size w w' := by
  have h1 : ∀ w1 : World, Calls Try.prog 30 #[teVal x] w1 fun e w' => e = .returned (.bool (nmB x)) ∧ Below w1.heap.size w1 w' := fun w1 => nameRight_any x w1 (by unfold maxLen; omega)
  have h2 : ∀ w1 : World, Calls Try.prog 31 #[teVal x] w1 fun e w' => e = .returned (.bool (nuB x)) ∧ Below w1.heap.size w1 w' := fun w1 => numberRight_any x w1
  have h3 : ∀ w1 : World, Below w.heap.size w w1 → Calls Try.prog 32 #[teVal x] w1 fun e w' => e = .returned (.bool (tyB x)) ∧ Below w1.heap.size w1 w' := fun w1 hb => typeRight_any x w1 (h.1.up hb hb.size) hs hwf hn
  have h4 : ∀ w1 : World, Calls Try.prog 33 #[teVal x] w1 fun e w' => e = .returned (.bool (paB x x.u.2.1)) ∧ Below w1.heap.size w1 w' := fun w1 => partsRight_any x w1
  have hl : x.u.2.1 = ps.len := by
    obtain ⟨A, c, hv⟩ := h.2.slice
    dsimp only at hv
    unfold slv at hv
    injection hv
  rw [hl] at h4
  obtain ⟨a1, ha1⟩ : ∃ a, nmB x = a := ⟨_, rfl⟩
  obtain ⟨a2, ha2⟩ : ∃ a, nuB x = a := ⟨_, rfl⟩
  obtain ⟨a3, ha3⟩ : ∃ a, tyB x = a := ⟨_, rfl⟩
  obtain ⟨a4, ha4⟩ : ∃ a, paB x ps.len = a := ⟨_, rfl⟩
  have hR : aloneE (x, ps) = (a1 && (a2 && (a3 && a4))) := by unfold aloneE; rw [ha1, ha2, ha3, ha4]
  rw [hR]
  rw [ha1] at h1
  rw [ha2] at h2
  rw [ha3] at h3
  rw [ha4] at h4
  have XB := Lib.hid (show ∀ w2 : World, w2.heap[w.heap.size]? = some (Obj.cells (ndC x).toArray 29) → NdAt w2 w.heap.size 0 x from fun w2 hc => NdAt.of_cells fun j u hu => by
    rw [Nat.zero_add, cell_of_row w2 _ j _ _ (0, 0) hc]
    simpa using hu)
  obtain ⟨x0, x1, x2, x3, x4, ⟨xu1, xu2, xu3⟩, x6, ⟨xv1, xv2, xv3⟩, x8, x9⟩ := x
  dsimp only [slv, teVal, ndC] at h1 h2 h3 h4 XB ⊢
  obtain ⟨w0, hw0⟩ : ∃ w0, w.alloc (Obj.cells #[.int .i64 x0, .string x1, .int .i64 x2, .int .i64 x3, .int .i64 x4, .slice xu1 xu2 xu3, .slice xv1 xv2 xv3, .int .i64 x8, .int .i64 x9] 29) = w0 := ⟨_, rfl⟩
  have hb0 : Below w.heap.size w w0 := by rw [← hw0]; exact (Below.refl _ w).alloc (Nat.le_refl _) _
  have hs0 : w0.heap.size = w.heap.size + 1 := by rw [← hw0]; simp
  have hh0 : w0.heap[w.heap.size]? = some (Obj.cells #[.int .i64 x0, .string x1, .int .i64 x2, .int .i64 x3, .int .i64 x4, .slice xu1 xu2 xu3, .slice xv1 xv2 xv3, .int .i64 x8, .int .i64 x9] 29) := by rw [← hw0]; exact heap_alloc_new w _
  have H1 := Lib.hid h1
  have H2 := Lib.hid h2
  have H3 := Lib.hid h3
  have H4 := Lib.hid h4
  have HW := Lib.hid (And.intro hw0 (And.intro hb0 (And.intro hs0 hh0)))
  clear h hs hwf hn hn60 h1 h2 h3 h4 hl ha1 ha2 ha3 ha4 hR hw0 hb0 hs0 hh0
  -- what a call leaves
  have step : ∀ w1 w2 : World, Below w.heap.size w w1 → w1.heap[w.heap.size]? = some (Obj.cells #[.int .i64 x0, .string x1, .int .i64 x2, .int .i64 x3, .int .i64 x4, .slice xu1 xu2 xu3, .slice xv1 xv2 xv3, .int .i64 x8, .int .i64 x9] 29) → Below w1.heap.size w1 w2 → Below w.heap.size w w2 ∧ w2.heap[w.heap.size]? = some (Obj.cells #[.int .i64 x0, .string x1, .int .i64 x2, .int .i64 x3, .int .i64 x4, .slice xu1 xu2 xu3, .slice xv1 xv2 xv3, .int .i64 x8, .int .i64 x9] 29) := fun w1 w2 hb hh hb2 => ⟨hb.trans (hb2.mono hb.size), (hb2.block _ (Array.getElem?_eq_some_iff.1 hh).1).trans hh⟩
  have ST := Lib.hid step
  clear step
  go_enter Try.func24, Try.ntmps24
  go_wp2_with fail
  refine (H1.out _).mono ?_
  rintro e w1 ⟨rfl, hb1⟩
  rw [HW.out.1] at hb1
  obtain ⟨k1, g1⟩ := ST.out _ _ HW.out.2.1 HW.out.2.2.2 hb1
  obtain ⟨c0, c1, c2, c3, c4, c5, c6, c7, c8⟩ := XB.out _ g1
  simp only [Nat.zero_add, slv] at c0 c1 c2 c3 c4 c5 c6 c7 c8
  have HK1 := Lib.hid (And.intro k1 g1)
  clear hb1 k1 g1
  cases a1
  · go_wp2_with fail
    go_ret
    exact ⟨rfl, HK1.out.1⟩
  go_wp2_with fail
  refine (H2.out _).mono ?_
  rintro e w2 ⟨rfl, hb2⟩
  obtain ⟨k2, g2⟩ := ST.out _ _ HK1.out.1 HK1.out.2 hb2
  clear c0 c1 c2 c3 c4 c5 c6 c7 c8
  obtain ⟨c0, c1, c2, c3, c4, c5, c6, c7, c8⟩ := XB.out _ g2
  simp only [Nat.zero_add, slv] at c0 c1 c2 c3 c4 c5 c6 c7 c8
  have HK2 := Lib.hid (And.intro k2 g2)
  clear hb2 k2 g2
  cases a2
  · go_wp2_with fail
    go_ret
    exact ⟨rfl, HK2.out.1⟩
  have hc3 := H3.out _ HK2.out.1
  have HC3 := Lib.hid hc3
  clear hc3
  go_wp2_with fail
  refine HC3.out.mono ?_
  rintro e w3 ⟨rfl, hb3⟩
  obtain ⟨k3, g3⟩ := ST.out _ _ HK2.out.1 HK2.out.2 hb3
  clear c0 c1 c2 c3 c4 c5 c6 c7 c8
  obtain ⟨c0, c1, c2, c3, c4, c5, c6, c7, c8⟩ := XB.out _ g3
  simp only [Nat.zero_add, slv] at c0 c1 c2 c3 c4 c5 c6 c7 c8
  have HK3 := Lib.hid (And.intro k3 g3)
  clear hb3 k3 g3
  cases a3
  · go_wp2_with fail
    go_ret
    exact ⟨rfl, HK3.out.1⟩
  go_wp2_with fail
  refine (H4.out _).mono ?_
  rintro e w4 ⟨rfl, hb4⟩
  obtain ⟨k4, g4⟩ := ST.out _ _ HK3.out.1 HK3.out.2 hb4
  have HK4 := Lib.hid k4
  clear hb4 k4 g4 c0 c1 c2 c3 c4 c5 c6 c7 c8
  go_wp2_with fail
  go_ret
  exact ⟨rfl, HK4.out⟩
end Go.Proofs.Ytfoangiphbmipaa
