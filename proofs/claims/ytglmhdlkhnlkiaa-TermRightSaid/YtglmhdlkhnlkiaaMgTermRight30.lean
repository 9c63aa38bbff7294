/- Texts of one proof, one behind the other. -/
import Derived.Test.YtglmhdlkhnlkiaaMgTermRight26
import Derived.Test.YtglmhdlkhnlkiaaMgTermRight23
import Derived.Test.YtglmhdlkhnlkiaaMgTermRight20
/- The answer's Right of terms. -/
namespace Go.Proofs.Ytglmhdlkhnlkiaa
open Go.RowKit Go.Shelf
attribute [local go_sem] Oper.semAt_some

set_option maxHeartbeats 2000000 in
set_option maxRecDepth 100000 in
theorem named_any (k : Int) (w : World) : Calls Try.prog 45 #[.int .i64 k] w fun e w' => e = .returned (.bool (nmd k)) ∧ Below w.heap.size w w' := by
  obtain ⟨R, hR⟩ : ∃ R, nmd k = R := ⟨_, rfl⟩
  rw [hR]
  unfold nmd at hR
  obtain ⟨b1, hb1⟩ : ∃ b, (k == 1) = b := ⟨_, rfl⟩
  obtain ⟨b4, hb4⟩ : ∃ b, (k == 4) = b := ⟨_, rfl⟩
  obtain ⟨b6, hb6⟩ : ∃ b, (k == 6) = b := ⟨_, rfl⟩
  obtain ⟨b7, hb7⟩ : ∃ b, (k == 7) = b := ⟨_, rfl⟩
  rw [hb1, hb4, hb6, hb7] at hR
  have HR := Lib.hid hR
  clear hR
  have HB := Lib.hid (Below.refl w.heap.size w)
  have HB0 := Lib.hid (show ∀ (cs : Array Value) (t : TypeId), Below w.heap.size w (w.alloc (Obj.cells cs t)) from fun cs t => (Below.refl _ w).alloc (Nat.le_refl _) _)
  cases b1 <;> cases b4 <;> cases b6 <;> cases b7
  all_goals
    go_enter Try.func45, Try.ntmps45
    go_wp2_with fail
    go_ret
    exact ⟨ret_bool (by rw [← HR.out]; rfl), by first | exact HB.out | exact HB0.out _ _⟩
theorem varsL_head (k n : Int) (u u' : Sl) (l : List Tr) : varsL [] ((k, n, u) :: l) = varsL [] ((k, n, u') :: l) := by simp [varsL, addV]
/-- What is known of the answer's functions, at a term. -/
structure SndK (x : Nd) (w : World) (nd nb rr ss : Bool) (vv : List Int) : Prop where
  nd : ∀ w1 : World, Calls Try.prog 45 #[.int .i64 x.k] w1 fun e w' => e = .returned (.bool nd) ∧ Below w1.heap.size w1 w'
  nb : ∀ w1 : World, Calls Try.prog 46 #[.string x.s] w1 fun e w' => e = .returned (.bool nb) ∧ Below w1.heap.size w1 w'
  rr : ∀ w1 : World, Below w.heap.size w w1 → Calls Try.prog 47 #[.agg #[.int .i64 x.tk, .int .i64 x.tn, slv x.tu]] w1 fun e w' => e = .returned (.bool rr) ∧ Below w1.heap.size w1 w'
  vv : ∀ w1 : World, Below w.heap.size w w1 → Calls Try.prog 48 #[.agg #[.int .i64 x.tk, .int .i64 x.tn, slv x.tu], .slice none 0 0] w1 (IsInts vv w1)
  ss : ∀ w1 : World, Below w.heap.size w w1 → Calls Try.prog 49 #[.agg #[.int .i64 x.tk, .int .i64 x.tn, slv x.tu], .agg #[.int .i64 0, .int .i64 0, .slice none 0 0]] w1 fun e w' => e = .returned (.bool ss) ∧ Below w1.heap.size w1 w'
/-- What a call leaves. -/
theorem snd_step {w : World} {cs : Array Value} {T : TypeId} {w1 w2 : World} (hb : Below w.heap.size w w1) (hh : w1.heap[w.heap.size]? = some (Obj.cells cs T)) (hb2 : Below w1.heap.size w1 w2) : Below w.heap.size w w2 ∧ w2.heap[w.heap.size]? = some (Obj.cells cs T) :=
  ⟨hb.trans (hb2.mono hb.size), (hb2.block _ (Array.getElem?_eq_some_iff.1 hh).1).trans hh⟩
set_option maxHeartbeats 4000000 in
set_option maxRecDepth 100000 in
theorem sound_1 (x : Nd) (w : World) (q : Nat) (hq : x.u.2.1 = q) (nb rr ss : Bool) (vv : List Int) (hk : x.k = 1) (K : SndK x w true nb rr ss vv) (R : Bool)
    (hR : (nb && (ss && (nuB x && paB x q))) = R) :
    Calls Try.prog 30 #[teVal x] w fun e w' => e = .returned (.bool R) ∧ Below w.heap.size w w' := by
  obtain ⟨x0, x1, x2, x3, x4, ⟨xu1, xu2, xu3⟩, x6, ⟨xv1, xv2, xv3⟩, x8, x9⟩ := x
  obtain ⟨K1, K2, K3, K4, K5⟩ := K
  dsimp only [slv, teVal] at K1 K2 K3 K4 K5 hk hq hR ⊢
  subst hq
  unfold nuB paB at hR
  dsimp only at hR
  subst hk
  simp only [Int.reduceBEq, if_true, Bool.false_eq_true, if_false, Bool.or_false] at hR
  obtain ⟨em, hem⟩ : ∃ em, x1.toList.isEmpty = em := ⟨_, rfl⟩
  try rw [hem] at hR
  have HR := Lib.hid hR
  have H1 := Lib.hid K1
  have H2 := Lib.hid K2
  have H3 := Lib.hid K3
  have H4 := Lib.hid K4
  have H5 := Lib.hid K5
  obtain ⟨W0, hW0⟩ : ∃ W0, w.alloc (Obj.cells #[.int .i64 1, .string x1, .int .i64 x2, .int .i64 x3, .int .i64 x4, .slice xu1 xu2 xu3, .slice xv1 xv2 xv3, .int .i64 x8, .int .i64 x9] 29) = W0 := ⟨_, rfl⟩
  have hb0 : Below w.heap.size w W0 := by rw [← hW0]; exact (Below.refl _ w).alloc (Nat.le_refl _) _
  have hh0 : W0.heap[w.heap.size]? = some (Obj.cells #[.int .i64 1, .string x1, .int .i64 x2, .int .i64 x3, .int .i64 x4, .slice xu1 xu2 xu3, .slice xv1 xv2 xv3, .int .i64 x8, .int .i64 x9] 29) := by rw [← hW0]; exact heap_alloc_new w _
  have HW := Lib.hid (And.intro hb0 hh0)
  obtain ⟨c0, c1, c2, c3, c4, c5, c6, c7, c8⟩ : NdAt W0 w.heap.size 0 ⟨1, x1, x2, x3, x4, (xu1, xu2, xu3), x6, (xv1, xv2, xv3), x8, x9⟩ := NdAt.of_block (T := 29) hh0
  simp only [Nat.zero_add, slv] at c0 c1 c2 c3 c4 c5 c6 c7 c8
  clear hb0 hh0 K1 K2 K3 K4 K5 hR
  go_enter Try.func30, Try.ntmps30
  go_upto_region 1 with fail
  go_cut [3, 4] (fun s3 s4 wx => s3 = .int .i64 1 ∧ s4 = .int .i64 xv2 ∧ Below W0.heap.size W0 wx)
  case first =>
    go_region
    all_goals go_wp2_with fail
    all_goals go_meet
    all_goals exact ⟨rfl, rfl, (Below.refl _ _).drew⟩
  case rest =>
  obtain ⟨rfl, rfl, hbc⟩ := hcut
  have HK0 := Lib.hid (snd_step HW.out.1 HW.out.2 hbc)
  clear hbc c0 c1 c2 c3 c4 c5 c6 c7 c8
  obtain ⟨c0, c1, c2, c3, c4, c5, c6, c7, c8⟩ : NdAt wc w.heap.size 0 ⟨1, x1, x2, x3, x4, (xu1, xu2, xu3), x6, (xv1, xv2, xv3), x8, x9⟩ := NdAt.of_block (T := 29) HK0.out.2
  simp only [Nat.zero_add, slv] at c0 c1 c2 c3 c4 c5 c6 c7 c8
  go_wp2_with fail
  refine (H1.out _).mono ?_
  rintro e w1 ⟨rfl, hb⟩
  have HK1 := Lib.hid (snd_step HK0.out.1 HK0.out.2 hb)
  clear hb c0 c1 c2 c3 c4 c5 c6 c7 c8
  obtain ⟨c0, c1, c2, c3, c4, c5, c6, c7, c8⟩ : NdAt w1 w.heap.size 0 ⟨1, x1, x2, x3, x4, (xu1, xu2, xu3), x6, (xv1, xv2, xv3), x8, x9⟩ := NdAt.of_block (T := 29) HK1.out.2
  simp only [Nat.zero_add, slv] at c0 c1 c2 c3 c4 c5 c6 c7 c8
  go_wp2_with fail
  refine (H2.out _).mono ?_
  rintro e w2 ⟨rfl, hb⟩
  have HK2 := Lib.hid (snd_step HK1.out.1 HK1.out.2 hb)
  clear hb c0 c1 c2 c3 c4 c5 c6 c7 c8
  obtain ⟨c0, c1, c2, c3, c4, c5, c6, c7, c8⟩ : NdAt w2 w.heap.size 0 ⟨1, x1, x2, x3, x4, (xu1, xu2, xu3), x6, (xv1, xv2, xv3), x8, x9⟩ := NdAt.of_block (T := 29) HK2.out.2
  simp only [Nat.zero_add, slv] at c0 c1 c2 c3 c4 c5 c6 c7 c8
  cases nb
  case' false =>
    go_wp2_with fail
    go_ret
    exact ⟨ret_bool (by rw [← HR.out]; simp), HK2.out.1⟩
  go_wp2_with fail
  refine (H1.out _).mono ?_
  rintro e w3 ⟨rfl, hb⟩
  have HK3 := Lib.hid (snd_step HK2.out.1 HK2.out.2 hb)
  clear hb c0 c1 c2 c3 c4 c5 c6 c7 c8
  obtain ⟨c0, c1, c2, c3, c4, c5, c6, c7, c8⟩ : NdAt w3 w.heap.size 0 ⟨1, x1, x2, x3, x4, (xu1, xu2, xu3), x6, (xv1, xv2, xv3), x8, x9⟩ := NdAt.of_block (T := 29) HK3.out.2
  simp only [Nat.zero_add, slv] at c0 c1 c2 c3 c4 c5 c6 c7 c8
  have hcs := H5.out w3 HK3.out.1
  have HCS := Lib.hid hcs
  clear hcs
  go_wp2_with fail
  refine (HCS.out).mono ?_
  rintro e w4 ⟨rfl, hb⟩
  have HK4 := Lib.hid (snd_step HK3.out.1 HK3.out.2 hb)
  clear hb c0 c1 c2 c3 c4 c5 c6 c7 c8
  obtain ⟨c0, c1, c2, c3, c4, c5, c6, c7, c8⟩ : NdAt w4 w.heap.size 0 ⟨1, x1, x2, x3, x4, (xu1, xu2, xu3), x6, (xv1, xv2, xv3), x8, x9⟩ := NdAt.of_block (T := 29) HK4.out.2
  simp only [Nat.zero_add, slv] at c0 c1 c2 c3 c4 c5 c6 c7 c8
  cases ss
  case' false =>
    go_wp2_with fail
    go_ret
    exact ⟨ret_bool (by rw [← HR.out]; simp), HK4.out.1⟩
  go_wp2_with fail
  all_goals
    go_ret
    refine ⟨ret_bool ?_, HK4.out.1⟩
    rw [← HR.out]
    first | (simp_all; done) | (simp_all; omega)
set_option maxHeartbeats 4000000 in
set_option maxRecDepth 100000 in
theorem sound_2 (x : Nd) (w : World) (q : Nat) (hq : x.u.2.1 = q) (nb rr ss : Bool) (vv : List Int) (hk : x.k = 2) (K : SndK x w false nb rr ss vv) (R : Bool)
    (hR : (x.s.toList.isEmpty && (ss && (nuB x && paB x q))) = R) :
    Calls Try.prog 30 #[teVal x] w fun e w' => e = .returned (.bool R) ∧ Below w.heap.size w w' := by
  obtain ⟨x0, x1, x2, x3, x4, ⟨xu1, xu2, xu3⟩, x6, ⟨xv1, xv2, xv3⟩, x8, x9⟩ := x
  obtain ⟨K1, K2, K3, K4, K5⟩ := K
  dsimp only [slv, teVal] at K1 K2 K3 K4 K5 hk hq hR ⊢
  subst hq
  unfold nuB paB at hR
  dsimp only at hR
  subst hk
  simp only [Int.reduceBEq, if_true, Bool.false_eq_true, if_false, Bool.or_false, Bool.or_true] at hR
  obtain ⟨em, hem⟩ : ∃ em, x1.toList.isEmpty = em := ⟨_, rfl⟩
  try rw [hem] at hR
  have HR := Lib.hid hR
  have H1 := Lib.hid K1
  have H2 := Lib.hid K2
  have H3 := Lib.hid K3
  have H4 := Lib.hid K4
  have H5 := Lib.hid K5
  obtain ⟨W0, hW0⟩ : ∃ W0, w.alloc (Obj.cells #[.int .i64 2, .string x1, .int .i64 x2, .int .i64 x3, .int .i64 x4, .slice xu1 xu2 xu3, .slice xv1 xv2 xv3, .int .i64 x8, .int .i64 x9] 29) = W0 := ⟨_, rfl⟩
  have hb0 : Below w.heap.size w W0 := by rw [← hW0]; exact (Below.refl _ w).alloc (Nat.le_refl _) _
  have hh0 : W0.heap[w.heap.size]? = some (Obj.cells #[.int .i64 2, .string x1, .int .i64 x2, .int .i64 x3, .int .i64 x4, .slice xu1 xu2 xu3, .slice xv1 xv2 xv3, .int .i64 x8, .int .i64 x9] 29) := by rw [← hW0]; exact heap_alloc_new w _
  have HW := Lib.hid (And.intro hb0 hh0)
  obtain ⟨c0, c1, c2, c3, c4, c5, c6, c7, c8⟩ : NdAt W0 w.heap.size 0 ⟨2, x1, x2, x3, x4, (xu1, xu2, xu3), x6, (xv1, xv2, xv3), x8, x9⟩ := NdAt.of_block (T := 29) hh0
  simp only [Nat.zero_add, slv] at c0 c1 c2 c3 c4 c5 c6 c7 c8
  clear hb0 hh0 K1 K2 K3 K4 K5 hR
  go_enter Try.func30, Try.ntmps30
  go_upto_region 1 with fail
  go_cut [3, 4] (fun s3 s4 wx => s3 = .int .i64 2 ∧ s4 = .int .i64 xv2 ∧ Below W0.heap.size W0 wx)
  case first =>
    go_region
    all_goals go_wp2_with fail
    all_goals go_meet
    all_goals exact ⟨rfl, rfl, (Below.refl _ _).drew⟩
  case rest =>
  obtain ⟨rfl, rfl, hbc⟩ := hcut
  have HK0 := Lib.hid (snd_step HW.out.1 HW.out.2 hbc)
  clear hbc c0 c1 c2 c3 c4 c5 c6 c7 c8
  obtain ⟨c0, c1, c2, c3, c4, c5, c6, c7, c8⟩ : NdAt wc w.heap.size 0 ⟨2, x1, x2, x3, x4, (xu1, xu2, xu3), x6, (xv1, xv2, xv3), x8, x9⟩ := NdAt.of_block (T := 29) HK0.out.2
  simp only [Nat.zero_add, slv] at c0 c1 c2 c3 c4 c5 c6 c7 c8
  go_wp2_with fail
  refine (H1.out _).mono ?_
  rintro e w1 ⟨rfl, hb⟩
  have HK1 := Lib.hid (snd_step HK0.out.1 HK0.out.2 hb)
  clear hb c0 c1 c2 c3 c4 c5 c6 c7 c8
  obtain ⟨c0, c1, c2, c3, c4, c5, c6, c7, c8⟩ : NdAt w1 w.heap.size 0 ⟨2, x1, x2, x3, x4, (xu1, xu2, xu3), x6, (xv1, xv2, xv3), x8, x9⟩ := NdAt.of_block (T := 29) HK1.out.2
  simp only [Nat.zero_add, slv] at c0 c1 c2 c3 c4 c5 c6 c7 c8
  go_wp2_with fail
  refine (H1.out _).mono ?_
  rintro e w3 ⟨rfl, hb⟩
  have HK3 := Lib.hid (snd_step HK1.out.1 HK1.out.2 hb)
  clear hb c0 c1 c2 c3 c4 c5 c6 c7 c8
  obtain ⟨c0, c1, c2, c3, c4, c5, c6, c7, c8⟩ : NdAt w3 w.heap.size 0 ⟨2, x1, x2, x3, x4, (xu1, xu2, xu3), x6, (xv1, xv2, xv3), x8, x9⟩ := NdAt.of_block (T := 29) HK3.out.2
  simp only [Nat.zero_add, slv] at c0 c1 c2 c3 c4 c5 c6 c7 c8
  cases em
  case' false =>
    go_wp2_with fail
    go_ret
    exact ⟨ret_bool (by rw [← HR.out]; simp), HK3.out.1⟩
  have hcs := H5.out w3 HK3.out.1
  have HCS := Lib.hid hcs
  clear hcs
  go_wp2_with fail
  refine (HCS.out).mono ?_
  rintro e w4 ⟨rfl, hb⟩
  have HK4 := Lib.hid (snd_step HK3.out.1 HK3.out.2 hb)
  clear hb c0 c1 c2 c3 c4 c5 c6 c7 c8
  obtain ⟨c0, c1, c2, c3, c4, c5, c6, c7, c8⟩ : NdAt w4 w.heap.size 0 ⟨2, x1, x2, x3, x4, (xu1, xu2, xu3), x6, (xv1, xv2, xv3), x8, x9⟩ := NdAt.of_block (T := 29) HK4.out.2
  simp only [Nat.zero_add, slv] at c0 c1 c2 c3 c4 c5 c6 c7 c8
  cases ss
  case' false =>
    go_wp2_with fail
    go_ret
    exact ⟨ret_bool (by rw [← HR.out]; simp), HK4.out.1⟩
  go_wp2_with fail
  all_goals
    go_ret
    refine ⟨ret_bool ?_, HK4.out.1⟩
    rw [← HR.out]
    first | (simp_all; done) | (simp_all; omega)
set_option maxHeartbeats 4000000 in
set_option maxRecDepth 100000 in
theorem sound_3 (x : Nd) (w : World) (q : Nat) (hq : x.u.2.1 = q) (nb rr ss : Bool) (vv : List Int) (hk : x.k = 3) (K : SndK x w false nb rr ss vv) (R : Bool)
    (hR : (x.s.toList.isEmpty && (ss && (nuB x && paB x q))) = R) :
    Calls Try.prog 30 #[teVal x] w fun e w' => e = .returned (.bool R) ∧ Below w.heap.size w w' := by
  obtain ⟨x0, x1, x2, x3, x4, ⟨xu1, xu2, xu3⟩, x6, ⟨xv1, xv2, xv3⟩, x8, x9⟩ := x
  obtain ⟨K1, K2, K3, K4, K5⟩ := K
  dsimp only [slv, teVal] at K1 K2 K3 K4 K5 hk hq hR ⊢
  subst hq
  unfold nuB paB at hR
  dsimp only at hR
  subst hk
  simp only [Int.reduceBEq, if_true, Bool.false_eq_true, if_false, Bool.or_false, Bool.or_true] at hR
  obtain ⟨em, hem⟩ : ∃ em, x1.toList.isEmpty = em := ⟨_, rfl⟩
  try rw [hem] at hR
  have HR := Lib.hid hR
  have H1 := Lib.hid K1
  have H2 := Lib.hid K2
  have H3 := Lib.hid K3
  have H4 := Lib.hid K4
  have H5 := Lib.hid K5
  obtain ⟨W0, hW0⟩ : ∃ W0, w.alloc (Obj.cells #[.int .i64 3, .string x1, .int .i64 x2, .int .i64 x3, .int .i64 x4, .slice xu1 xu2 xu3, .slice xv1 xv2 xv3, .int .i64 x8, .int .i64 x9] 29) = W0 := ⟨_, rfl⟩
  have hb0 : Below w.heap.size w W0 := by rw [← hW0]; exact (Below.refl _ w).alloc (Nat.le_refl _) _
  have hh0 : W0.heap[w.heap.size]? = some (Obj.cells #[.int .i64 3, .string x1, .int .i64 x2, .int .i64 x3, .int .i64 x4, .slice xu1 xu2 xu3, .slice xv1 xv2 xv3, .int .i64 x8, .int .i64 x9] 29) := by rw [← hW0]; exact heap_alloc_new w _
  have HW := Lib.hid (And.intro hb0 hh0)
  obtain ⟨c0, c1, c2, c3, c4, c5, c6, c7, c8⟩ : NdAt W0 w.heap.size 0 ⟨3, x1, x2, x3, x4, (xu1, xu2, xu3), x6, (xv1, xv2, xv3), x8, x9⟩ := NdAt.of_block (T := 29) hh0
  simp only [Nat.zero_add, slv] at c0 c1 c2 c3 c4 c5 c6 c7 c8
  clear hb0 hh0 K1 K2 K3 K4 K5 hR
  go_enter Try.func30, Try.ntmps30
  go_upto_region 1 with fail
  go_cut [3, 4] (fun s3 s4 wx => s3 = .int .i64 3 ∧ s4 = .int .i64 xv2 ∧ Below W0.heap.size W0 wx)
  case first =>
    go_region
    all_goals go_wp2_with fail
    all_goals go_meet
    all_goals exact ⟨rfl, rfl, (Below.refl _ _).drew⟩
  case rest =>
  obtain ⟨rfl, rfl, hbc⟩ := hcut
  have HK0 := Lib.hid (snd_step HW.out.1 HW.out.2 hbc)
  clear hbc c0 c1 c2 c3 c4 c5 c6 c7 c8
  obtain ⟨c0, c1, c2, c3, c4, c5, c6, c7, c8⟩ : NdAt wc w.heap.size 0 ⟨3, x1, x2, x3, x4, (xu1, xu2, xu3), x6, (xv1, xv2, xv3), x8, x9⟩ := NdAt.of_block (T := 29) HK0.out.2
  simp only [Nat.zero_add, slv] at c0 c1 c2 c3 c4 c5 c6 c7 c8
  go_wp2_with fail
  refine (H1.out _).mono ?_
  rintro e w1 ⟨rfl, hb⟩
  have HK1 := Lib.hid (snd_step HK0.out.1 HK0.out.2 hb)
  clear hb c0 c1 c2 c3 c4 c5 c6 c7 c8
  obtain ⟨c0, c1, c2, c3, c4, c5, c6, c7, c8⟩ : NdAt w1 w.heap.size 0 ⟨3, x1, x2, x3, x4, (xu1, xu2, xu3), x6, (xv1, xv2, xv3), x8, x9⟩ := NdAt.of_block (T := 29) HK1.out.2
  simp only [Nat.zero_add, slv] at c0 c1 c2 c3 c4 c5 c6 c7 c8
  go_wp2_with fail
  refine (H1.out _).mono ?_
  rintro e w3 ⟨rfl, hb⟩
  have HK3 := Lib.hid (snd_step HK1.out.1 HK1.out.2 hb)
  clear hb c0 c1 c2 c3 c4 c5 c6 c7 c8
  obtain ⟨c0, c1, c2, c3, c4, c5, c6, c7, c8⟩ : NdAt w3 w.heap.size 0 ⟨3, x1, x2, x3, x4, (xu1, xu2, xu3), x6, (xv1, xv2, xv3), x8, x9⟩ := NdAt.of_block (T := 29) HK3.out.2
  simp only [Nat.zero_add, slv] at c0 c1 c2 c3 c4 c5 c6 c7 c8
  cases em
  case' false =>
    go_wp2_with fail
    go_ret
    exact ⟨ret_bool (by rw [← HR.out]; simp), HK3.out.1⟩
  have hcs := H5.out w3 HK3.out.1
  have HCS := Lib.hid hcs
  clear hcs
  go_wp2_with fail
  refine (HCS.out).mono ?_
  rintro e w4 ⟨rfl, hb⟩
  have HK4 := Lib.hid (snd_step HK3.out.1 HK3.out.2 hb)
  clear hb c0 c1 c2 c3 c4 c5 c6 c7 c8
  obtain ⟨c0, c1, c2, c3, c4, c5, c6, c7, c8⟩ : NdAt w4 w.heap.size 0 ⟨3, x1, x2, x3, x4, (xu1, xu2, xu3), x6, (xv1, xv2, xv3), x8, x9⟩ := NdAt.of_block (T := 29) HK4.out.2
  simp only [Nat.zero_add, slv] at c0 c1 c2 c3 c4 c5 c6 c7 c8
  cases ss
  case' false =>
    go_wp2_with fail
    go_ret
    exact ⟨ret_bool (by rw [← HR.out]; simp), HK4.out.1⟩
  go_wp2_with fail
  all_goals
    go_ret
    refine ⟨ret_bool ?_, HK4.out.1⟩
    rw [← HR.out]
    first | (simp_all; done) | (simp_all; omega)
set_option maxHeartbeats 4000000 in
set_option maxRecDepth 100000 in
theorem sound_4 (x : Nd) (w : World) (q : Nat) (hq : x.u.2.1 = q) (nb rr ss : Bool) (vv : List Int) (hk : x.k = 4) (K : SndK x w true nb rr ss vv) (R : Bool)
    (hR : (nb && (ss && (nuB x && paB x q))) = R) :
    Calls Try.prog 30 #[teVal x] w fun e w' => e = .returned (.bool R) ∧ Below w.heap.size w w' := by
  obtain ⟨x0, x1, x2, x3, x4, ⟨xu1, xu2, xu3⟩, x6, ⟨xv1, xv2, xv3⟩, x8, x9⟩ := x
  obtain ⟨K1, K2, K3, K4, K5⟩ := K
  dsimp only [slv, teVal] at K1 K2 K3 K4 K5 hk hq hR ⊢
  subst hq
  unfold nuB paB at hR
  dsimp only at hR
  subst hk
  simp only [Int.reduceBEq, if_true, Bool.false_eq_true, if_false, Bool.or_false] at hR
  obtain ⟨em, hem⟩ : ∃ em, x1.toList.isEmpty = em := ⟨_, rfl⟩
  try rw [hem] at hR
  have HR := Lib.hid hR
  have H1 := Lib.hid K1
  have H2 := Lib.hid K2
  have H3 := Lib.hid K3
  have H4 := Lib.hid K4
  have H5 := Lib.hid K5
  obtain ⟨W0, hW0⟩ : ∃ W0, w.alloc (Obj.cells #[.int .i64 4, .string x1, .int .i64 x2, .int .i64 x3, .int .i64 x4, .slice xu1 xu2 xu3, .slice xv1 xv2 xv3, .int .i64 x8, .int .i64 x9] 29) = W0 := ⟨_, rfl⟩
  have hb0 : Below w.heap.size w W0 := by rw [← hW0]; exact (Below.refl _ w).alloc (Nat.le_refl _) _
  have hh0 : W0.heap[w.heap.size]? = some (Obj.cells #[.int .i64 4, .string x1, .int .i64 x2, .int .i64 x3, .int .i64 x4, .slice xu1 xu2 xu3, .slice xv1 xv2 xv3, .int .i64 x8, .int .i64 x9] 29) := by rw [← hW0]; exact heap_alloc_new w _
  have HW := Lib.hid (And.intro hb0 hh0)
  obtain ⟨c0, c1, c2, c3, c4, c5, c6, c7, c8⟩ : NdAt W0 w.heap.size 0 ⟨4, x1, x2, x3, x4, (xu1, xu2, xu3), x6, (xv1, xv2, xv3), x8, x9⟩ := NdAt.of_block (T := 29) hh0
  simp only [Nat.zero_add, slv] at c0 c1 c2 c3 c4 c5 c6 c7 c8
  clear hb0 hh0 K1 K2 K3 K4 K5 hR
  go_enter Try.func30, Try.ntmps30
  go_upto_region 1 with fail
  go_cut [3, 4] (fun s3 s4 wx => s3 = .int .i64 4 ∧ s4 = .int .i64 xv2 ∧ Below W0.heap.size W0 wx)
  case first =>
    go_region
    all_goals go_wp2_with fail
    all_goals go_meet
    all_goals exact ⟨rfl, rfl, (Below.refl _ _).drew⟩
  case rest =>
  obtain ⟨rfl, rfl, hbc⟩ := hcut
  have HK0 := Lib.hid (snd_step HW.out.1 HW.out.2 hbc)
  clear hbc c0 c1 c2 c3 c4 c5 c6 c7 c8
  obtain ⟨c0, c1, c2, c3, c4, c5, c6, c7, c8⟩ : NdAt wc w.heap.size 0 ⟨4, x1, x2, x3, x4, (xu1, xu2, xu3), x6, (xv1, xv2, xv3), x8, x9⟩ := NdAt.of_block (T := 29) HK0.out.2
  simp only [Nat.zero_add, slv] at c0 c1 c2 c3 c4 c5 c6 c7 c8
  go_wp2_with fail
  refine (H1.out _).mono ?_
  rintro e w1 ⟨rfl, hb⟩
  have HK1 := Lib.hid (snd_step HK0.out.1 HK0.out.2 hb)
  clear hb c0 c1 c2 c3 c4 c5 c6 c7 c8
  obtain ⟨c0, c1, c2, c3, c4, c5, c6, c7, c8⟩ : NdAt w1 w.heap.size 0 ⟨4, x1, x2, x3, x4, (xu1, xu2, xu3), x6, (xv1, xv2, xv3), x8, x9⟩ := NdAt.of_block (T := 29) HK1.out.2
  simp only [Nat.zero_add, slv] at c0 c1 c2 c3 c4 c5 c6 c7 c8
  go_wp2_with fail
  refine (H2.out _).mono ?_
  rintro e w2 ⟨rfl, hb⟩
  have HK2 := Lib.hid (snd_step HK1.out.1 HK1.out.2 hb)
  clear hb c0 c1 c2 c3 c4 c5 c6 c7 c8
  obtain ⟨c0, c1, c2, c3, c4, c5, c6, c7, c8⟩ : NdAt w2 w.heap.size 0 ⟨4, x1, x2, x3, x4, (xu1, xu2, xu3), x6, (xv1, xv2, xv3), x8, x9⟩ := NdAt.of_block (T := 29) HK2.out.2
  simp only [Nat.zero_add, slv] at c0 c1 c2 c3 c4 c5 c6 c7 c8
  cases nb
  case' false =>
    go_wp2_with fail
    go_ret
    exact ⟨ret_bool (by rw [← HR.out]; simp), HK2.out.1⟩
  go_wp2_with fail
  refine (H1.out _).mono ?_
  rintro e w3 ⟨rfl, hb⟩
  have HK3 := Lib.hid (snd_step HK2.out.1 HK2.out.2 hb)
  clear hb c0 c1 c2 c3 c4 c5 c6 c7 c8
  obtain ⟨c0, c1, c2, c3, c4, c5, c6, c7, c8⟩ : NdAt w3 w.heap.size 0 ⟨4, x1, x2, x3, x4, (xu1, xu2, xu3), x6, (xv1, xv2, xv3), x8, x9⟩ := NdAt.of_block (T := 29) HK3.out.2
  simp only [Nat.zero_add, slv] at c0 c1 c2 c3 c4 c5 c6 c7 c8
  have hcs := H5.out w3 HK3.out.1
  have HCS := Lib.hid hcs
  clear hcs
  go_wp2_with fail
  refine (HCS.out).mono ?_
  rintro e w4 ⟨rfl, hb⟩
  have HK4 := Lib.hid (snd_step HK3.out.1 HK3.out.2 hb)
  clear hb c0 c1 c2 c3 c4 c5 c6 c7 c8
  obtain ⟨c0, c1, c2, c3, c4, c5, c6, c7, c8⟩ : NdAt w4 w.heap.size 0 ⟨4, x1, x2, x3, x4, (xu1, xu2, xu3), x6, (xv1, xv2, xv3), x8, x9⟩ := NdAt.of_block (T := 29) HK4.out.2
  simp only [Nat.zero_add, slv] at c0 c1 c2 c3 c4 c5 c6 c7 c8
  cases ss
  case' false =>
    go_wp2_with fail
    go_ret
    exact ⟨ret_bool (by rw [← HR.out]; simp), HK4.out.1⟩
  go_wp2_with fail
  all_goals
    go_ret
    refine ⟨ret_bool ?_, HK4.out.1⟩
    rw [← HR.out]
    first | (simp_all; done) | (simp_all; omega)
set_option maxHeartbeats 4000000 in
set_option maxRecDepth 100000 in
theorem sound_5 (x : Nd) (w : World) (q : Nat) (hq : x.u.2.1 = q) (nb rr ss : Bool) (vv : List Int) (hk : x.k = 5) (K : SndK x w false nb rr ss vv) (R : Bool)
    (hR : (x.s.toList.isEmpty && (ss && (nuB x && paB x q))) = R) :
    Calls Try.prog 30 #[teVal x] w fun e w' => e = .returned (.bool R) ∧ Below w.heap.size w w' := by
  obtain ⟨x0, x1, x2, x3, x4, ⟨xu1, xu2, xu3⟩, x6, ⟨xv1, xv2, xv3⟩, x8, x9⟩ := x
  obtain ⟨K1, K2, K3, K4, K5⟩ := K
  dsimp only [slv, teVal] at K1 K2 K3 K4 K5 hk hq hR ⊢
  subst hq
  unfold nuB paB at hR
  dsimp only at hR
  subst hk
  simp only [Int.reduceBEq, if_true, Bool.false_eq_true, if_false, Bool.or_false] at hR
  obtain ⟨em, hem⟩ : ∃ em, x1.toList.isEmpty = em := ⟨_, rfl⟩
  try rw [hem] at hR
  have HR := Lib.hid hR
  have H1 := Lib.hid K1
  have H2 := Lib.hid K2
  have H3 := Lib.hid K3
  have H4 := Lib.hid K4
  have H5 := Lib.hid K5
  obtain ⟨W0, hW0⟩ : ∃ W0, w.alloc (Obj.cells #[.int .i64 5, .string x1, .int .i64 x2, .int .i64 x3, .int .i64 x4, .slice xu1 xu2 xu3, .slice xv1 xv2 xv3, .int .i64 x8, .int .i64 x9] 29) = W0 := ⟨_, rfl⟩
  have hb0 : Below w.heap.size w W0 := by rw [← hW0]; exact (Below.refl _ w).alloc (Nat.le_refl _) _
  have hh0 : W0.heap[w.heap.size]? = some (Obj.cells #[.int .i64 5, .string x1, .int .i64 x2, .int .i64 x3, .int .i64 x4, .slice xu1 xu2 xu3, .slice xv1 xv2 xv3, .int .i64 x8, .int .i64 x9] 29) := by rw [← hW0]; exact heap_alloc_new w _
  have HW := Lib.hid (And.intro hb0 hh0)
  obtain ⟨c0, c1, c2, c3, c4, c5, c6, c7, c8⟩ : NdAt W0 w.heap.size 0 ⟨5, x1, x2, x3, x4, (xu1, xu2, xu3), x6, (xv1, xv2, xv3), x8, x9⟩ := NdAt.of_block (T := 29) hh0
  simp only [Nat.zero_add, slv] at c0 c1 c2 c3 c4 c5 c6 c7 c8
  clear hb0 hh0 K1 K2 K3 K4 K5 hR
  go_enter Try.func30, Try.ntmps30
  go_upto_region 1 with fail
  go_cut [3, 4] (fun s3 s4 wx => s3 = .int .i64 5 ∧ s4 = .int .i64 xv2 ∧ Below W0.heap.size W0 wx)
  case first =>
    go_region
    all_goals go_wp2_with fail
    all_goals go_meet
    all_goals exact ⟨rfl, rfl, (Below.refl _ _).drew⟩
  case rest =>
  obtain ⟨rfl, rfl, hbc⟩ := hcut
  have HK0 := Lib.hid (snd_step HW.out.1 HW.out.2 hbc)
  clear hbc c0 c1 c2 c3 c4 c5 c6 c7 c8
  obtain ⟨c0, c1, c2, c3, c4, c5, c6, c7, c8⟩ : NdAt wc w.heap.size 0 ⟨5, x1, x2, x3, x4, (xu1, xu2, xu3), x6, (xv1, xv2, xv3), x8, x9⟩ := NdAt.of_block (T := 29) HK0.out.2
  simp only [Nat.zero_add, slv] at c0 c1 c2 c3 c4 c5 c6 c7 c8
  go_wp2_with fail
  refine (H1.out _).mono ?_
  rintro e w1 ⟨rfl, hb⟩
  have HK1 := Lib.hid (snd_step HK0.out.1 HK0.out.2 hb)
  clear hb c0 c1 c2 c3 c4 c5 c6 c7 c8
  obtain ⟨c0, c1, c2, c3, c4, c5, c6, c7, c8⟩ : NdAt w1 w.heap.size 0 ⟨5, x1, x2, x3, x4, (xu1, xu2, xu3), x6, (xv1, xv2, xv3), x8, x9⟩ := NdAt.of_block (T := 29) HK1.out.2
  simp only [Nat.zero_add, slv] at c0 c1 c2 c3 c4 c5 c6 c7 c8
  go_wp2_with fail
  refine (H1.out _).mono ?_
  rintro e w3 ⟨rfl, hb⟩
  have HK3 := Lib.hid (snd_step HK1.out.1 HK1.out.2 hb)
  clear hb c0 c1 c2 c3 c4 c5 c6 c7 c8
  obtain ⟨c0, c1, c2, c3, c4, c5, c6, c7, c8⟩ : NdAt w3 w.heap.size 0 ⟨5, x1, x2, x3, x4, (xu1, xu2, xu3), x6, (xv1, xv2, xv3), x8, x9⟩ := NdAt.of_block (T := 29) HK3.out.2
  simp only [Nat.zero_add, slv] at c0 c1 c2 c3 c4 c5 c6 c7 c8
  cases em
  case' false =>
    go_wp2_with fail
    go_ret
    exact ⟨ret_bool (by rw [← HR.out]; simp), HK3.out.1⟩
  have hcs := H5.out w3 HK3.out.1
  have HCS := Lib.hid hcs
  clear hcs
  go_wp2_with fail
  refine (HCS.out).mono ?_
  rintro e w4 ⟨rfl, hb⟩
  have HK4 := Lib.hid (snd_step HK3.out.1 HK3.out.2 hb)
  clear hb c0 c1 c2 c3 c4 c5 c6 c7 c8
  obtain ⟨c0, c1, c2, c3, c4, c5, c6, c7, c8⟩ : NdAt w4 w.heap.size 0 ⟨5, x1, x2, x3, x4, (xu1, xu2, xu3), x6, (xv1, xv2, xv3), x8, x9⟩ := NdAt.of_block (T := 29) HK4.out.2
  simp only [Nat.zero_add, slv] at c0 c1 c2 c3 c4 c5 c6 c7 c8
  cases ss
  case' false =>
    go_wp2_with fail
    go_ret
    exact ⟨ret_bool (by rw [← HR.out]; simp), HK4.out.1⟩
  go_wp2_with fail
  all_goals
    go_ret
    refine ⟨ret_bool ?_, HK4.out.1⟩
    rw [← HR.out]
    first | (simp_all; done) | (simp_all; omega)
set_option maxHeartbeats 4000000 in
set_option maxRecDepth 100000 in
theorem sound_6 (x : Nd) (w : World) (q : Nat) (hq : x.u.2.1 = q) (nb rr ss : Bool) (vv : List Int) (hk : x.k = 6) (K : SndK x w true nb rr ss vv) (R : Bool)
    (hR : (nb && (ss && (nuB x && paB x q))) = R) :
    Calls Try.prog 30 #[teVal x] w fun e w' => e = .returned (.bool R) ∧ Below w.heap.size w w' := by
  obtain ⟨x0, x1, x2, x3, x4, ⟨xu1, xu2, xu3⟩, x6, ⟨xv1, xv2, xv3⟩, x8, x9⟩ := x
  obtain ⟨K1, K2, K3, K4, K5⟩ := K
  dsimp only [slv, teVal] at K1 K2 K3 K4 K5 hk hq hR ⊢
  subst hq
  unfold nuB paB at hR
  dsimp only at hR
  subst hk
  simp only [Int.reduceBEq, if_true, Bool.false_eq_true, if_false, Bool.or_false, Bool.or_true] at hR
  obtain ⟨em, hem⟩ : ∃ em, x1.toList.isEmpty = em := ⟨_, rfl⟩
  try rw [hem] at hR
  have HR := Lib.hid hR
  have H1 := Lib.hid K1
  have H2 := Lib.hid K2
  have H3 := Lib.hid K3
  have H4 := Lib.hid K4
  have H5 := Lib.hid K5
  obtain ⟨W0, hW0⟩ : ∃ W0, w.alloc (Obj.cells #[.int .i64 6, .string x1, .int .i64 x2, .int .i64 x3, .int .i64 x4, .slice xu1 xu2 xu3, .slice xv1 xv2 xv3, .int .i64 x8, .int .i64 x9] 29) = W0 := ⟨_, rfl⟩
  have hb0 : Below w.heap.size w W0 := by rw [← hW0]; exact (Below.refl _ w).alloc (Nat.le_refl _) _
  have hh0 : W0.heap[w.heap.size]? = some (Obj.cells #[.int .i64 6, .string x1, .int .i64 x2, .int .i64 x3, .int .i64 x4, .slice xu1 xu2 xu3, .slice xv1 xv2 xv3, .int .i64 x8, .int .i64 x9] 29) := by rw [← hW0]; exact heap_alloc_new w _
  have HW := Lib.hid (And.intro hb0 hh0)
  obtain ⟨c0, c1, c2, c3, c4, c5, c6, c7, c8⟩ : NdAt W0 w.heap.size 0 ⟨6, x1, x2, x3, x4, (xu1, xu2, xu3), x6, (xv1, xv2, xv3), x8, x9⟩ := NdAt.of_block (T := 29) hh0
  simp only [Nat.zero_add, slv] at c0 c1 c2 c3 c4 c5 c6 c7 c8
  clear hb0 hh0 K1 K2 K3 K4 K5 hR
  go_enter Try.func30, Try.ntmps30
  go_upto_region 1 with fail
  go_cut [3, 4] (fun s3 s4 wx => s3 = .int .i64 6 ∧ s4 = .int .i64 xv2 ∧ Below W0.heap.size W0 wx)
  case first =>
    go_region
    all_goals go_wp2_with fail
    all_goals go_meet
    all_goals exact ⟨rfl, rfl, (Below.refl _ _).drew⟩
  case rest =>
  obtain ⟨rfl, rfl, hbc⟩ := hcut
  have HK0 := Lib.hid (snd_step HW.out.1 HW.out.2 hbc)
  clear hbc c0 c1 c2 c3 c4 c5 c6 c7 c8
  obtain ⟨c0, c1, c2, c3, c4, c5, c6, c7, c8⟩ : NdAt wc w.heap.size 0 ⟨6, x1, x2, x3, x4, (xu1, xu2, xu3), x6, (xv1, xv2, xv3), x8, x9⟩ := NdAt.of_block (T := 29) HK0.out.2
  simp only [Nat.zero_add, slv] at c0 c1 c2 c3 c4 c5 c6 c7 c8
  go_wp2_with fail
  refine (H1.out _).mono ?_
  rintro e w1 ⟨rfl, hb⟩
  have HK1 := Lib.hid (snd_step HK0.out.1 HK0.out.2 hb)
  clear hb c0 c1 c2 c3 c4 c5 c6 c7 c8
  obtain ⟨c0, c1, c2, c3, c4, c5, c6, c7, c8⟩ : NdAt w1 w.heap.size 0 ⟨6, x1, x2, x3, x4, (xu1, xu2, xu3), x6, (xv1, xv2, xv3), x8, x9⟩ := NdAt.of_block (T := 29) HK1.out.2
  simp only [Nat.zero_add, slv] at c0 c1 c2 c3 c4 c5 c6 c7 c8
  go_wp2_with fail
  refine (H2.out _).mono ?_
  rintro e w2 ⟨rfl, hb⟩
  have HK2 := Lib.hid (snd_step HK1.out.1 HK1.out.2 hb)
  clear hb c0 c1 c2 c3 c4 c5 c6 c7 c8
  obtain ⟨c0, c1, c2, c3, c4, c5, c6, c7, c8⟩ : NdAt w2 w.heap.size 0 ⟨6, x1, x2, x3, x4, (xu1, xu2, xu3), x6, (xv1, xv2, xv3), x8, x9⟩ := NdAt.of_block (T := 29) HK2.out.2
  simp only [Nat.zero_add, slv] at c0 c1 c2 c3 c4 c5 c6 c7 c8
  cases nb
  case' false =>
    go_wp2_with fail
    go_ret
    exact ⟨ret_bool (by rw [← HR.out]; simp), HK2.out.1⟩
  go_wp2_with fail
  refine (H1.out _).mono ?_
  rintro e w3 ⟨rfl, hb⟩
  have HK3 := Lib.hid (snd_step HK2.out.1 HK2.out.2 hb)
  clear hb c0 c1 c2 c3 c4 c5 c6 c7 c8
  obtain ⟨c0, c1, c2, c3, c4, c5, c6, c7, c8⟩ : NdAt w3 w.heap.size 0 ⟨6, x1, x2, x3, x4, (xu1, xu2, xu3), x6, (xv1, xv2, xv3), x8, x9⟩ := NdAt.of_block (T := 29) HK3.out.2
  simp only [Nat.zero_add, slv] at c0 c1 c2 c3 c4 c5 c6 c7 c8
  have hcs := H5.out w3 HK3.out.1
  have HCS := Lib.hid hcs
  clear hcs
  go_wp2_with fail
  refine (HCS.out).mono ?_
  rintro e w4 ⟨rfl, hb⟩
  have HK4 := Lib.hid (snd_step HK3.out.1 HK3.out.2 hb)
  clear hb c0 c1 c2 c3 c4 c5 c6 c7 c8
  obtain ⟨c0, c1, c2, c3, c4, c5, c6, c7, c8⟩ : NdAt w4 w.heap.size 0 ⟨6, x1, x2, x3, x4, (xu1, xu2, xu3), x6, (xv1, xv2, xv3), x8, x9⟩ := NdAt.of_block (T := 29) HK4.out.2
  simp only [Nat.zero_add, slv] at c0 c1 c2 c3 c4 c5 c6 c7 c8
  cases ss
  case' false =>
    go_wp2_with fail
    go_ret
    exact ⟨ret_bool (by rw [← HR.out]; simp), HK4.out.1⟩
  go_wp2_with fail
  all_goals
    go_ret
    refine ⟨ret_bool ?_, HK4.out.1⟩
    rw [← HR.out]
    first | (simp_all; done) | (simp_all; omega)
set_option maxHeartbeats 4000000 in
set_option maxRecDepth 100000 in
theorem sound_7 (x : Nd) (w : World) (q : Nat) (hq : x.u.2.1 = q) (nb rr ss : Bool) (vv : List Int) (hk : x.k = 7) (K : SndK x w true nb rr ss vv) (R : Bool)
    (hR : (nb && (ss && (nuB x && paB x q))) = R) :
    Calls Try.prog 30 #[teVal x] w fun e w' => e = .returned (.bool R) ∧ Below w.heap.size w w' := by
  obtain ⟨x0, x1, x2, x3, x4, ⟨xu1, xu2, xu3⟩, x6, ⟨xv1, xv2, xv3⟩, x8, x9⟩ := x
  obtain ⟨K1, K2, K3, K4, K5⟩ := K
  dsimp only [slv, teVal] at K1 K2 K3 K4 K5 hk hq hR ⊢
  subst hq
  unfold nuB paB at hR
  dsimp only at hR
  subst hk
  simp only [Int.reduceBEq, if_true, Bool.false_eq_true, if_false, Bool.or_false, Bool.or_true] at hR
  obtain ⟨em, hem⟩ : ∃ em, x1.toList.isEmpty = em := ⟨_, rfl⟩
  try rw [hem] at hR
  have HR := Lib.hid hR
  have H1 := Lib.hid K1
  have H2 := Lib.hid K2
  have H3 := Lib.hid K3
  have H4 := Lib.hid K4
  have H5 := Lib.hid K5
  obtain ⟨W0, hW0⟩ : ∃ W0, w.alloc (Obj.cells #[.int .i64 7, .string x1, .int .i64 x2, .int .i64 x3, .int .i64 x4, .slice xu1 xu2 xu3, .slice xv1 xv2 xv3, .int .i64 x8, .int .i64 x9] 29) = W0 := ⟨_, rfl⟩
  have hb0 : Below w.heap.size w W0 := by rw [← hW0]; exact (Below.refl _ w).alloc (Nat.le_refl _) _
  have hh0 : W0.heap[w.heap.size]? = some (Obj.cells #[.int .i64 7, .string x1, .int .i64 x2, .int .i64 x3, .int .i64 x4, .slice xu1 xu2 xu3, .slice xv1 xv2 xv3, .int .i64 x8, .int .i64 x9] 29) := by rw [← hW0]; exact heap_alloc_new w _
  have HW := Lib.hid (And.intro hb0 hh0)
  obtain ⟨c0, c1, c2, c3, c4, c5, c6, c7, c8⟩ : NdAt W0 w.heap.size 0 ⟨7, x1, x2, x3, x4, (xu1, xu2, xu3), x6, (xv1, xv2, xv3), x8, x9⟩ := NdAt.of_block (T := 29) hh0
  simp only [Nat.zero_add, slv] at c0 c1 c2 c3 c4 c5 c6 c7 c8
  clear hb0 hh0 K1 K2 K3 K4 K5 hR
  go_enter Try.func30, Try.ntmps30
  go_upto_region 1 with fail
  go_cut [3, 4] (fun s3 s4 wx => s3 = .int .i64 7 ∧ s4 = .int .i64 xv2 ∧ Below W0.heap.size W0 wx)
  case first =>
    go_region
    all_goals go_wp2_with fail
    all_goals go_meet
    all_goals exact ⟨rfl, rfl, (Below.refl _ _).drew⟩
  case rest =>
  obtain ⟨rfl, rfl, hbc⟩ := hcut
  have HK0 := Lib.hid (snd_step HW.out.1 HW.out.2 hbc)
  clear hbc c0 c1 c2 c3 c4 c5 c6 c7 c8
  obtain ⟨c0, c1, c2, c3, c4, c5, c6, c7, c8⟩ : NdAt wc w.heap.size 0 ⟨7, x1, x2, x3, x4, (xu1, xu2, xu3), x6, (xv1, xv2, xv3), x8, x9⟩ := NdAt.of_block (T := 29) HK0.out.2
  simp only [Nat.zero_add, slv] at c0 c1 c2 c3 c4 c5 c6 c7 c8
  go_wp2_with fail
  refine (H1.out _).mono ?_
  rintro e w1 ⟨rfl, hb⟩
  have HK1 := Lib.hid (snd_step HK0.out.1 HK0.out.2 hb)
  clear hb c0 c1 c2 c3 c4 c5 c6 c7 c8
  obtain ⟨c0, c1, c2, c3, c4, c5, c6, c7, c8⟩ : NdAt w1 w.heap.size 0 ⟨7, x1, x2, x3, x4, (xu1, xu2, xu3), x6, (xv1, xv2, xv3), x8, x9⟩ := NdAt.of_block (T := 29) HK1.out.2
  simp only [Nat.zero_add, slv] at c0 c1 c2 c3 c4 c5 c6 c7 c8
  go_wp2_with fail
  refine (H2.out _).mono ?_
  rintro e w2 ⟨rfl, hb⟩
  have HK2 := Lib.hid (snd_step HK1.out.1 HK1.out.2 hb)
  clear hb c0 c1 c2 c3 c4 c5 c6 c7 c8
  obtain ⟨c0, c1, c2, c3, c4, c5, c6, c7, c8⟩ : NdAt w2 w.heap.size 0 ⟨7, x1, x2, x3, x4, (xu1, xu2, xu3), x6, (xv1, xv2, xv3), x8, x9⟩ := NdAt.of_block (T := 29) HK2.out.2
  simp only [Nat.zero_add, slv] at c0 c1 c2 c3 c4 c5 c6 c7 c8
  cases nb
  case' false =>
    go_wp2_with fail
    go_ret
    exact ⟨ret_bool (by rw [← HR.out]; simp), HK2.out.1⟩
  go_wp2_with fail
  refine (H1.out _).mono ?_
  rintro e w3 ⟨rfl, hb⟩
  have HK3 := Lib.hid (snd_step HK2.out.1 HK2.out.2 hb)
  clear hb c0 c1 c2 c3 c4 c5 c6 c7 c8
  obtain ⟨c0, c1, c2, c3, c4, c5, c6, c7, c8⟩ : NdAt w3 w.heap.size 0 ⟨7, x1, x2, x3, x4, (xu1, xu2, xu3), x6, (xv1, xv2, xv3), x8, x9⟩ := NdAt.of_block (T := 29) HK3.out.2
  simp only [Nat.zero_add, slv] at c0 c1 c2 c3 c4 c5 c6 c7 c8
  have hcs := H5.out w3 HK3.out.1
  have HCS := Lib.hid hcs
  clear hcs
  go_wp2_with fail
  refine (HCS.out).mono ?_
  rintro e w4 ⟨rfl, hb⟩
  have HK4 := Lib.hid (snd_step HK3.out.1 HK3.out.2 hb)
  clear hb c0 c1 c2 c3 c4 c5 c6 c7 c8
  obtain ⟨c0, c1, c2, c3, c4, c5, c6, c7, c8⟩ : NdAt w4 w.heap.size 0 ⟨7, x1, x2, x3, x4, (xu1, xu2, xu3), x6, (xv1, xv2, xv3), x8, x9⟩ := NdAt.of_block (T := 29) HK4.out.2
  simp only [Nat.zero_add, slv] at c0 c1 c2 c3 c4 c5 c6 c7 c8
  cases ss
  case' false =>
    go_wp2_with fail
    go_ret
    exact ⟨ret_bool (by rw [← HR.out]; simp), HK4.out.1⟩
  go_wp2_with fail
  all_goals
    go_ret
    refine ⟨ret_bool ?_, HK4.out.1⟩
    rw [← HR.out]
    first | (simp_all; done) | (simp_all; omega)
set_option maxHeartbeats 4000000 in
set_option maxRecDepth 100000 in
theorem sound_8 (x : Nd) (w : World) (q : Nat) (hq : x.u.2.1 = q) (nb rr ss : Bool) (vv : List Int) (hk : x.k = 8) (K : SndK x w false nb rr ss vv) (R : Bool)
    (hR : (x.s.toList.isEmpty && (ss && (nuB x && paB x q))) = R) :
    Calls Try.prog 30 #[teVal x] w fun e w' => e = .returned (.bool R) ∧ Below w.heap.size w w' := by
  obtain ⟨x0, x1, x2, x3, x4, ⟨xu1, xu2, xu3⟩, x6, ⟨xv1, xv2, xv3⟩, x8, x9⟩ := x
  obtain ⟨K1, K2, K3, K4, K5⟩ := K
  dsimp only [slv, teVal] at K1 K2 K3 K4 K5 hk hq hR ⊢
  subst hq
  unfold nuB paB at hR
  dsimp only at hR
  subst hk
  simp only [Int.reduceBEq, if_true, Bool.false_eq_true, if_false, Bool.or_false] at hR
  obtain ⟨em, hem⟩ : ∃ em, x1.toList.isEmpty = em := ⟨_, rfl⟩
  try rw [hem] at hR
  have HR := Lib.hid hR
  have H1 := Lib.hid K1
  have H2 := Lib.hid K2
  have H3 := Lib.hid K3
  have H4 := Lib.hid K4
  have H5 := Lib.hid K5
  obtain ⟨W0, hW0⟩ : ∃ W0, w.alloc (Obj.cells #[.int .i64 8, .string x1, .int .i64 x2, .int .i64 x3, .int .i64 x4, .slice xu1 xu2 xu3, .slice xv1 xv2 xv3, .int .i64 x8, .int .i64 x9] 29) = W0 := ⟨_, rfl⟩
  have hb0 : Below w.heap.size w W0 := by rw [← hW0]; exact (Below.refl _ w).alloc (Nat.le_refl _) _
  have hh0 : W0.heap[w.heap.size]? = some (Obj.cells #[.int .i64 8, .string x1, .int .i64 x2, .int .i64 x3, .int .i64 x4, .slice xu1 xu2 xu3, .slice xv1 xv2 xv3, .int .i64 x8, .int .i64 x9] 29) := by rw [← hW0]; exact heap_alloc_new w _
  have HW := Lib.hid (And.intro hb0 hh0)
  obtain ⟨c0, c1, c2, c3, c4, c5, c6, c7, c8⟩ : NdAt W0 w.heap.size 0 ⟨8, x1, x2, x3, x4, (xu1, xu2, xu3), x6, (xv1, xv2, xv3), x8, x9⟩ := NdAt.of_block (T := 29) hh0
  simp only [Nat.zero_add, slv] at c0 c1 c2 c3 c4 c5 c6 c7 c8
  clear hb0 hh0 K1 K2 K3 K4 K5 hR
  go_enter Try.func30, Try.ntmps30
  go_upto_region 1 with fail
  go_cut [3, 4] (fun s3 s4 wx => s3 = .int .i64 8 ∧ s4 = .int .i64 xv2 ∧ Below W0.heap.size W0 wx)
  case first =>
    go_region
    all_goals go_wp2_with fail
    all_goals go_meet
    all_goals exact ⟨rfl, rfl, (Below.refl _ _).drew⟩
  case rest =>
  obtain ⟨rfl, rfl, hbc⟩ := hcut
  have HK0 := Lib.hid (snd_step HW.out.1 HW.out.2 hbc)
  clear hbc c0 c1 c2 c3 c4 c5 c6 c7 c8
  obtain ⟨c0, c1, c2, c3, c4, c5, c6, c7, c8⟩ : NdAt wc w.heap.size 0 ⟨8, x1, x2, x3, x4, (xu1, xu2, xu3), x6, (xv1, xv2, xv3), x8, x9⟩ := NdAt.of_block (T := 29) HK0.out.2
  simp only [Nat.zero_add, slv] at c0 c1 c2 c3 c4 c5 c6 c7 c8
  go_wp2_with fail
  refine (H1.out _).mono ?_
  rintro e w1 ⟨rfl, hb⟩
  have HK1 := Lib.hid (snd_step HK0.out.1 HK0.out.2 hb)
  clear hb c0 c1 c2 c3 c4 c5 c6 c7 c8
  obtain ⟨c0, c1, c2, c3, c4, c5, c6, c7, c8⟩ : NdAt w1 w.heap.size 0 ⟨8, x1, x2, x3, x4, (xu1, xu2, xu3), x6, (xv1, xv2, xv3), x8, x9⟩ := NdAt.of_block (T := 29) HK1.out.2
  simp only [Nat.zero_add, slv] at c0 c1 c2 c3 c4 c5 c6 c7 c8
  go_wp2_with fail
  refine (H1.out _).mono ?_
  rintro e w3 ⟨rfl, hb⟩
  have HK3 := Lib.hid (snd_step HK1.out.1 HK1.out.2 hb)
  clear hb c0 c1 c2 c3 c4 c5 c6 c7 c8
  obtain ⟨c0, c1, c2, c3, c4, c5, c6, c7, c8⟩ : NdAt w3 w.heap.size 0 ⟨8, x1, x2, x3, x4, (xu1, xu2, xu3), x6, (xv1, xv2, xv3), x8, x9⟩ := NdAt.of_block (T := 29) HK3.out.2
  simp only [Nat.zero_add, slv] at c0 c1 c2 c3 c4 c5 c6 c7 c8
  cases em
  case' false =>
    go_wp2_with fail
    go_ret
    exact ⟨ret_bool (by rw [← HR.out]; simp), HK3.out.1⟩
  have hcs := H5.out w3 HK3.out.1
  have HCS := Lib.hid hcs
  clear hcs
  go_wp2_with fail
  refine (HCS.out).mono ?_
  rintro e w4 ⟨rfl, hb⟩
  have HK4 := Lib.hid (snd_step HK3.out.1 HK3.out.2 hb)
  clear hb c0 c1 c2 c3 c4 c5 c6 c7 c8
  obtain ⟨c0, c1, c2, c3, c4, c5, c6, c7, c8⟩ : NdAt w4 w.heap.size 0 ⟨8, x1, x2, x3, x4, (xu1, xu2, xu3), x6, (xv1, xv2, xv3), x8, x9⟩ := NdAt.of_block (T := 29) HK4.out.2
  simp only [Nat.zero_add, slv] at c0 c1 c2 c3 c4 c5 c6 c7 c8
  cases ss
  case' false =>
    go_wp2_with fail
    go_ret
    exact ⟨ret_bool (by rw [← HR.out]; simp), HK4.out.1⟩
  go_wp2_with fail
  all_goals
    go_ret
    refine ⟨ret_bool ?_, HK4.out.1⟩
    rw [← HR.out]
    first | (simp_all; done) | (simp_all; omega)
set_option maxHeartbeats 4000000 in
set_option maxRecDepth 100000 in
theorem sound_9 (x : Nd) (w : World) (q : Nat) (hq : x.u.2.1 = q) (nb rr ss : Bool) (vv : List Int) (hk : x.k = 9) (K : SndK x w false nb rr ss vv) (R : Bool)
    (hR : (x.s.toList.isEmpty && (ss && (nuB x && paB x q))) = R) :
    Calls Try.prog 30 #[teVal x] w fun e w' => e = .returned (.bool R) ∧ Below w.heap.size w w' := by
  obtain ⟨x0, x1, x2, x3, x4, ⟨xu1, xu2, xu3⟩, x6, ⟨xv1, xv2, xv3⟩, x8, x9⟩ := x
  obtain ⟨K1, K2, K3, K4, K5⟩ := K
  dsimp only [slv, teVal] at K1 K2 K3 K4 K5 hk hq hR ⊢
  subst hq
  unfold nuB paB at hR
  dsimp only at hR
  subst hk
  simp only [Int.reduceBEq, if_true, Bool.false_eq_true, if_false, Bool.or_false] at hR
  obtain ⟨em, hem⟩ : ∃ em, x1.toList.isEmpty = em := ⟨_, rfl⟩
  try rw [hem] at hR
  have HR := Lib.hid hR
  have H1 := Lib.hid K1
  have H2 := Lib.hid K2
  have H3 := Lib.hid K3
  have H4 := Lib.hid K4
  have H5 := Lib.hid K5
  obtain ⟨W0, hW0⟩ : ∃ W0, w.alloc (Obj.cells #[.int .i64 9, .string x1, .int .i64 x2, .int .i64 x3, .int .i64 x4, .slice xu1 xu2 xu3, .slice xv1 xv2 xv3, .int .i64 x8, .int .i64 x9] 29) = W0 := ⟨_, rfl⟩
  have hb0 : Below w.heap.size w W0 := by rw [← hW0]; exact (Below.refl _ w).alloc (Nat.le_refl _) _
  have hh0 : W0.heap[w.heap.size]? = some (Obj.cells #[.int .i64 9, .string x1, .int .i64 x2, .int .i64 x3, .int .i64 x4, .slice xu1 xu2 xu3, .slice xv1 xv2 xv3, .int .i64 x8, .int .i64 x9] 29) := by rw [← hW0]; exact heap_alloc_new w _
  have HW := Lib.hid (And.intro hb0 hh0)
  obtain ⟨c0, c1, c2, c3, c4, c5, c6, c7, c8⟩ : NdAt W0 w.heap.size 0 ⟨9, x1, x2, x3, x4, (xu1, xu2, xu3), x6, (xv1, xv2, xv3), x8, x9⟩ := NdAt.of_block (T := 29) hh0
  simp only [Nat.zero_add, slv] at c0 c1 c2 c3 c4 c5 c6 c7 c8
  clear hb0 hh0 K1 K2 K3 K4 K5 hR
  go_enter Try.func30, Try.ntmps30
  go_upto_region 1 with fail
  go_cut [3, 4] (fun s3 s4 wx => s3 = .int .i64 9 ∧ s4 = .int .i64 xv2 ∧ Below W0.heap.size W0 wx)
  case first =>
    go_region
    all_goals go_wp2_with fail
    all_goals go_meet
    all_goals exact ⟨rfl, rfl, (Below.refl _ _).drew⟩
  case rest =>
  obtain ⟨rfl, rfl, hbc⟩ := hcut
  have HK0 := Lib.hid (snd_step HW.out.1 HW.out.2 hbc)
  clear hbc c0 c1 c2 c3 c4 c5 c6 c7 c8
  obtain ⟨c0, c1, c2, c3, c4, c5, c6, c7, c8⟩ : NdAt wc w.heap.size 0 ⟨9, x1, x2, x3, x4, (xu1, xu2, xu3), x6, (xv1, xv2, xv3), x8, x9⟩ := NdAt.of_block (T := 29) HK0.out.2
  simp only [Nat.zero_add, slv] at c0 c1 c2 c3 c4 c5 c6 c7 c8
  go_wp2_with fail
  refine (H1.out _).mono ?_
  rintro e w1 ⟨rfl, hb⟩
  have HK1 := Lib.hid (snd_step HK0.out.1 HK0.out.2 hb)
  clear hb c0 c1 c2 c3 c4 c5 c6 c7 c8
  obtain ⟨c0, c1, c2, c3, c4, c5, c6, c7, c8⟩ : NdAt w1 w.heap.size 0 ⟨9, x1, x2, x3, x4, (xu1, xu2, xu3), x6, (xv1, xv2, xv3), x8, x9⟩ := NdAt.of_block (T := 29) HK1.out.2
  simp only [Nat.zero_add, slv] at c0 c1 c2 c3 c4 c5 c6 c7 c8
  go_wp2_with fail
  refine (H1.out _).mono ?_
  rintro e w3 ⟨rfl, hb⟩
  have HK3 := Lib.hid (snd_step HK1.out.1 HK1.out.2 hb)
  clear hb c0 c1 c2 c3 c4 c5 c6 c7 c8
  obtain ⟨c0, c1, c2, c3, c4, c5, c6, c7, c8⟩ : NdAt w3 w.heap.size 0 ⟨9, x1, x2, x3, x4, (xu1, xu2, xu3), x6, (xv1, xv2, xv3), x8, x9⟩ := NdAt.of_block (T := 29) HK3.out.2
  simp only [Nat.zero_add, slv] at c0 c1 c2 c3 c4 c5 c6 c7 c8
  cases em
  case' false =>
    go_wp2_with fail
    go_ret
    exact ⟨ret_bool (by rw [← HR.out]; simp), HK3.out.1⟩
  have hcs := H5.out w3 HK3.out.1
  have HCS := Lib.hid hcs
  clear hcs
  go_wp2_with fail
  refine (HCS.out).mono ?_
  rintro e w4 ⟨rfl, hb⟩
  have HK4 := Lib.hid (snd_step HK3.out.1 HK3.out.2 hb)
  clear hb c0 c1 c2 c3 c4 c5 c6 c7 c8
  obtain ⟨c0, c1, c2, c3, c4, c5, c6, c7, c8⟩ : NdAt w4 w.heap.size 0 ⟨9, x1, x2, x3, x4, (xu1, xu2, xu3), x6, (xv1, xv2, xv3), x8, x9⟩ := NdAt.of_block (T := 29) HK4.out.2
  simp only [Nat.zero_add, slv] at c0 c1 c2 c3 c4 c5 c6 c7 c8
  cases ss
  case' false =>
    go_wp2_with fail
    go_ret
    exact ⟨ret_bool (by rw [← HR.out]; simp), HK4.out.1⟩
  go_wp2_with fail
  all_goals
    go_ret
    refine ⟨ret_bool ?_, HK4.out.1⟩
    rw [← HR.out]
    first | (simp_all; done) | (simp_all; omega)
set_option maxHeartbeats 4000000 in
set_option maxRecDepth 100000 in
theorem sound_10 (x : Nd) (w : World) (q : Nat) (hq : x.u.2.1 = q) (nb rr ss : Bool) (vv : List Int) (hk : x.k = 10) (K : SndK x w false nb rr ss vv) (R : Bool)
    (hR : (x.s.toList.isEmpty && ((rr && vv.isEmpty) && (nuB x && paB x q))) = R) :
    Calls Try.prog 30 #[teVal x] w fun e w' => e = .returned (.bool R) ∧ Below w.heap.size w w' := by
  obtain ⟨x0, x1, x2, x3, x4, ⟨xu1, xu2, xu3⟩, x6, ⟨xv1, xv2, xv3⟩, x8, x9⟩ := x
  obtain ⟨K1, K2, K3, K4, K5⟩ := K
  dsimp only [slv, teVal] at K1 K2 K3 K4 K5 hk hq hR ⊢
  subst hq
  unfold nuB paB at hR
  dsimp only at hR
  subst hk
  simp only [Int.reduceBEq, if_true, Bool.false_eq_true, if_false, Bool.or_false, Bool.or_true] at hR
  obtain ⟨em, hem⟩ : ∃ em, x1.toList.isEmpty = em := ⟨_, rfl⟩
  try rw [hem] at hR
  have HR := Lib.hid hR
  have H1 := Lib.hid K1
  have H2 := Lib.hid K2
  have H3 := Lib.hid K3
  have H4 := Lib.hid K4
  have H5 := Lib.hid K5
  obtain ⟨W0, hW0⟩ : ∃ W0, w.alloc (Obj.cells #[.int .i64 10, .string x1, .int .i64 x2, .int .i64 x3, .int .i64 x4, .slice xu1 xu2 xu3, .slice xv1 xv2 xv3, .int .i64 x8, .int .i64 x9] 29) = W0 := ⟨_, rfl⟩
  have hb0 : Below w.heap.size w W0 := by rw [← hW0]; exact (Below.refl _ w).alloc (Nat.le_refl _) _
  have hh0 : W0.heap[w.heap.size]? = some (Obj.cells #[.int .i64 10, .string x1, .int .i64 x2, .int .i64 x3, .int .i64 x4, .slice xu1 xu2 xu3, .slice xv1 xv2 xv3, .int .i64 x8, .int .i64 x9] 29) := by rw [← hW0]; exact heap_alloc_new w _
  have HW := Lib.hid (And.intro hb0 hh0)
  obtain ⟨c0, c1, c2, c3, c4, c5, c6, c7, c8⟩ : NdAt W0 w.heap.size 0 ⟨10, x1, x2, x3, x4, (xu1, xu2, xu3), x6, (xv1, xv2, xv3), x8, x9⟩ := NdAt.of_block (T := 29) hh0
  simp only [Nat.zero_add, slv] at c0 c1 c2 c3 c4 c5 c6 c7 c8
  clear hb0 hh0 K1 K2 K3 K4 K5 hR
  go_enter Try.func30, Try.ntmps30
  go_upto_region 1 with fail
  go_cut [3, 4] (fun s3 s4 wx => s3 = .int .i64 10 ∧ s4 = .int .i64 xv2 ∧ Below W0.heap.size W0 wx)
  case first =>
    go_region
    all_goals go_wp2_with fail
    all_goals go_meet
    all_goals exact ⟨rfl, rfl, (Below.refl _ _).drew⟩
  case rest =>
  obtain ⟨rfl, rfl, hbc⟩ := hcut
  have HK0 := Lib.hid (snd_step HW.out.1 HW.out.2 hbc)
  clear hbc c0 c1 c2 c3 c4 c5 c6 c7 c8
  obtain ⟨c0, c1, c2, c3, c4, c5, c6, c7, c8⟩ : NdAt wc w.heap.size 0 ⟨10, x1, x2, x3, x4, (xu1, xu2, xu3), x6, (xv1, xv2, xv3), x8, x9⟩ := NdAt.of_block (T := 29) HK0.out.2
  simp only [Nat.zero_add, slv] at c0 c1 c2 c3 c4 c5 c6 c7 c8
  go_wp2_with fail
  refine (H1.out _).mono ?_
  rintro e w1 ⟨rfl, hb⟩
  have HK1 := Lib.hid (snd_step HK0.out.1 HK0.out.2 hb)
  clear hb c0 c1 c2 c3 c4 c5 c6 c7 c8
  obtain ⟨c0, c1, c2, c3, c4, c5, c6, c7, c8⟩ : NdAt w1 w.heap.size 0 ⟨10, x1, x2, x3, x4, (xu1, xu2, xu3), x6, (xv1, xv2, xv3), x8, x9⟩ := NdAt.of_block (T := 29) HK1.out.2
  simp only [Nat.zero_add, slv] at c0 c1 c2 c3 c4 c5 c6 c7 c8
  go_wp2_with fail
  refine (H1.out _).mono ?_
  rintro e w3 ⟨rfl, hb⟩
  have HK3 := Lib.hid (snd_step HK1.out.1 HK1.out.2 hb)
  clear hb c0 c1 c2 c3 c4 c5 c6 c7 c8
  obtain ⟨c0, c1, c2, c3, c4, c5, c6, c7, c8⟩ : NdAt w3 w.heap.size 0 ⟨10, x1, x2, x3, x4, (xu1, xu2, xu3), x6, (xv1, xv2, xv3), x8, x9⟩ := NdAt.of_block (T := 29) HK3.out.2
  simp only [Nat.zero_add, slv] at c0 c1 c2 c3 c4 c5 c6 c7 c8
  cases em
  case' false =>
    go_wp2_with fail
    go_ret
    exact ⟨ret_bool (by rw [← HR.out]; simp), HK3.out.1⟩
  have hcs := H3.out w3 HK3.out.1
  have HCS := Lib.hid hcs
  clear hcs
  go_wp2_with fail
  refine (HCS.out).mono ?_
  rintro e w4 ⟨rfl, hb⟩
  have HK4 := Lib.hid (snd_step HK3.out.1 HK3.out.2 hb)
  clear hb c0 c1 c2 c3 c4 c5 c6 c7 c8
  obtain ⟨c0, c1, c2, c3, c4, c5, c6, c7, c8⟩ : NdAt w4 w.heap.size 0 ⟨10, x1, x2, x3, x4, (xu1, xu2, xu3), x6, (xv1, xv2, xv3), x8, x9⟩ := NdAt.of_block (T := 29) HK4.out.2
  simp only [Nat.zero_add, slv] at c0 c1 c2 c3 c4 c5 c6 c7 c8
  cases rr
  case' false =>
    go_wp2_with fail
    go_ret
    exact ⟨ret_bool (by rw [← HR.out]; simp), HK4.out.1⟩
  have hcv := H4.out w4 HK4.out.1
  have HCV := Lib.hid hcv
  clear hcv
  go_wp2_with fail
  refine (HCV.out).mono ?_
  rintro e w5 ⟨v, rfl, hrd, hb⟩
  obtain ⟨vA, vc, rfl⟩ := hrd.form
  have HK5 := Lib.hid (snd_step HK4.out.1 HK4.out.2 hb)
  clear hb c0 c1 c2 c3 c4 c5 c6 c7 c8
  obtain ⟨c0, c1, c2, c3, c4, c5, c6, c7, c8⟩ : NdAt w5 w.heap.size 0 ⟨10, x1, x2, x3, x4, (xu1, xu2, xu3), x6, (xv1, xv2, xv3), x8, x9⟩ := NdAt.of_block (T := 29) HK5.out.2
  simp only [Nat.zero_add, slv] at c0 c1 c2 c3 c4 c5 c6 c7 c8
  clear hrd
  by_cases hv0 : vv.length = 0
  case neg =>
    have fv : decide ((0 : Int) < (vv.length : Int)) = true := decide_eq_true (by omega)
    have HV := Lib.hid (show vv.isEmpty = false by cases vv with | nil => simp at hv0 | cons => rfl)
    go_wp2_with fail
    go_ret
    exact ⟨ret_bool (by rw [← HR.out, HV.out]; simp), HK5.out.1⟩
  have fv : decide ((0 : Int) < (vv.length : Int)) = false := decide_eq_false (by omega)
  have HV := Lib.hid (show vv.isEmpty = true by cases vv with | nil => rfl | cons => simp at hv0)
  go_wp2_with fail
  all_goals
    go_ret
    refine ⟨ret_bool ?_, HK5.out.1⟩
    rw [← HR.out, HV.out]
    first | (simp_all; done) | (simp_all; omega)
set_option maxHeartbeats 4000000 in
set_option maxRecDepth 100000 in
theorem sound_o (x : Nd) (w : World) (q : Nat) (hq : x.u.2.1 = q) (nb rr ss : Bool) (vv : List Int) (hk : ¬ x.k = 1 ∧ ¬ x.k = 2 ∧ ¬ x.k = 3 ∧ ¬ x.k = 4 ∧ ¬ x.k = 5 ∧ ¬ x.k = 6 ∧ ¬ x.k = 7 ∧ ¬ x.k = 8 ∧ ¬ x.k = 9 ∧ ¬ x.k = 10) (K : SndK x w false nb rr ss vv) (R : Bool)
    (hR : (x.s.toList.isEmpty && (ss && (nuB x && paB x q))) = R) :
    Calls Try.prog 30 #[teVal x] w fun e w' => e = .returned (.bool R) ∧ Below w.heap.size w w' := by
  obtain ⟨x0, x1, x2, x3, x4, ⟨xu1, xu2, xu3⟩, x6, ⟨xv1, xv2, xv3⟩, x8, x9⟩ := x
  obtain ⟨K1, K2, K3, K4, K5⟩ := K
  dsimp only [slv, teVal] at K1 K2 K3 K4 K5 hk hq hR ⊢
  subst hq
  unfold nuB paB at hR
  dsimp only at hR
  have f1 : (x0 == 1) = false := beq_eq_false_iff_ne.2 hk.1
  have f2 : (x0 == 2) = false := beq_eq_false_iff_ne.2 hk.2.1
  have f3 : (x0 == 3) = false := beq_eq_false_iff_ne.2 hk.2.2.1
  have f4 : (x0 == 4) = false := beq_eq_false_iff_ne.2 hk.2.2.2.1
  have f5 : (x0 == 5) = false := beq_eq_false_iff_ne.2 hk.2.2.2.2.1
  have f6 : (x0 == 6) = false := beq_eq_false_iff_ne.2 hk.2.2.2.2.2.1
  have f7 : (x0 == 7) = false := beq_eq_false_iff_ne.2 hk.2.2.2.2.2.2.1
  have f8 : (x0 == 8) = false := beq_eq_false_iff_ne.2 hk.2.2.2.2.2.2.2.1
  have f9 : (x0 == 9) = false := beq_eq_false_iff_ne.2 hk.2.2.2.2.2.2.2.2.1
  have f10 : (x0 == 10) = false := beq_eq_false_iff_ne.2 hk.2.2.2.2.2.2.2.2.2
  have f10n : (x0 != 10) = true := bne_iff_ne.2 hk.2.2.2.2.2.2.2.2.2
  have HKK := Lib.hid hk
  clear hk
  simp only [f1, f2, f3, f4, f5, f6, f7, f8, f9, f10, Bool.false_eq_true, if_false, Bool.or_false, Bool.and_false] at hR
  obtain ⟨em, hem⟩ : ∃ em, x1.toList.isEmpty = em := ⟨_, rfl⟩
  try rw [hem] at hR
  have HR := Lib.hid hR
  have H1 := Lib.hid K1
  have H2 := Lib.hid K2
  have H3 := Lib.hid K3
  have H4 := Lib.hid K4
  have H5 := Lib.hid K5
  obtain ⟨W0, hW0⟩ : ∃ W0, w.alloc (Obj.cells #[.int .i64 x0, .string x1, .int .i64 x2, .int .i64 x3, .int .i64 x4, .slice xu1 xu2 xu3, .slice xv1 xv2 xv3, .int .i64 x8, .int .i64 x9] 29) = W0 := ⟨_, rfl⟩
  have hb0 : Below w.heap.size w W0 := by rw [← hW0]; exact (Below.refl _ w).alloc (Nat.le_refl _) _
  have hh0 : W0.heap[w.heap.size]? = some (Obj.cells #[.int .i64 x0, .string x1, .int .i64 x2, .int .i64 x3, .int .i64 x4, .slice xu1 xu2 xu3, .slice xv1 xv2 xv3, .int .i64 x8, .int .i64 x9] 29) := by rw [← hW0]; exact heap_alloc_new w _
  have HW := Lib.hid (And.intro hb0 hh0)
  obtain ⟨c0, c1, c2, c3, c4, c5, c6, c7, c8⟩ : NdAt W0 w.heap.size 0 ⟨x0, x1, x2, x3, x4, (xu1, xu2, xu3), x6, (xv1, xv2, xv3), x8, x9⟩ := NdAt.of_block (T := 29) hh0
  simp only [Nat.zero_add, slv] at c0 c1 c2 c3 c4 c5 c6 c7 c8
  clear hb0 hh0 K1 K2 K3 K4 K5 hR
  go_enter Try.func30, Try.ntmps30
  go_upto_region 1 with fail
  go_cut [3, 4] (fun s3 s4 wx => s3 = .int .i64 x0 ∧ s4 = .int .i64 xv2 ∧ Below W0.heap.size W0 wx)
  case first =>
    go_region
    all_goals go_wp2_with fail
    all_goals go_meet
    all_goals exact ⟨rfl, rfl, (Below.refl _ _).drew⟩
  case rest =>
  obtain ⟨rfl, rfl, hbc⟩ := hcut
  have HK0 := Lib.hid (snd_step HW.out.1 HW.out.2 hbc)
  clear hbc c0 c1 c2 c3 c4 c5 c6 c7 c8
  obtain ⟨c0, c1, c2, c3, c4, c5, c6, c7, c8⟩ : NdAt wc w.heap.size 0 ⟨x0, x1, x2, x3, x4, (xu1, xu2, xu3), x6, (xv1, xv2, xv3), x8, x9⟩ := NdAt.of_block (T := 29) HK0.out.2
  simp only [Nat.zero_add, slv] at c0 c1 c2 c3 c4 c5 c6 c7 c8
  go_wp2_with fail
  refine (H1.out _).mono ?_
  rintro e w1 ⟨rfl, hb⟩
  have HK1 := Lib.hid (snd_step HK0.out.1 HK0.out.2 hb)
  clear hb c0 c1 c2 c3 c4 c5 c6 c7 c8
  obtain ⟨c0, c1, c2, c3, c4, c5, c6, c7, c8⟩ : NdAt w1 w.heap.size 0 ⟨x0, x1, x2, x3, x4, (xu1, xu2, xu3), x6, (xv1, xv2, xv3), x8, x9⟩ := NdAt.of_block (T := 29) HK1.out.2
  simp only [Nat.zero_add, slv] at c0 c1 c2 c3 c4 c5 c6 c7 c8
  go_wp2_with fail
  refine (H1.out _).mono ?_
  rintro e w3 ⟨rfl, hb⟩
  have HK3 := Lib.hid (snd_step HK1.out.1 HK1.out.2 hb)
  clear hb c0 c1 c2 c3 c4 c5 c6 c7 c8
  obtain ⟨c0, c1, c2, c3, c4, c5, c6, c7, c8⟩ : NdAt w3 w.heap.size 0 ⟨x0, x1, x2, x3, x4, (xu1, xu2, xu3), x6, (xv1, xv2, xv3), x8, x9⟩ := NdAt.of_block (T := 29) HK3.out.2
  simp only [Nat.zero_add, slv] at c0 c1 c2 c3 c4 c5 c6 c7 c8
  cases em
  case' false =>
    go_wp2_with fail
    go_ret
    exact ⟨ret_bool HR.out, HK3.out.1⟩
  have hcs := H5.out w3 HK3.out.1
  have HCS := Lib.hid hcs
  clear hcs
  go_wp2_with fail
  refine (HCS.out).mono ?_
  rintro e w4 ⟨rfl, hb⟩
  have HK4 := Lib.hid (snd_step HK3.out.1 HK3.out.2 hb)
  clear hb c0 c1 c2 c3 c4 c5 c6 c7 c8
  obtain ⟨c0, c1, c2, c3, c4, c5, c6, c7, c8⟩ : NdAt w4 w.heap.size 0 ⟨x0, x1, x2, x3, x4, (xu1, xu2, xu3), x6, (xv1, xv2, xv3), x8, x9⟩ := NdAt.of_block (T := 29) HK4.out.2
  simp only [Nat.zero_add, slv] at c0 c1 c2 c3 c4 c5 c6 c7 c8
  cases ss
  case' false =>
    go_wp2_with fail
    go_ret
    exact ⟨ret_bool HR.out, HK4.out.1⟩
  have HO := Lib.hid (show R = false from HR.out.symm)
  go_wp2_with fail
  all_goals
    go_ret
    refine ⟨ret_bool ?_, HK4.out.1⟩
    rw [HO.out]
end Go.Proofs.Ytglmhdlkhnlkiaa
