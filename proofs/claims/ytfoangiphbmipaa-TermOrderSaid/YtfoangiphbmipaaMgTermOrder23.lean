/- Texts of one proof, one behind the other. -/
import Derived.Test.YtfoangiphbmipaaMgTermOrder8
import Derived.Test.YtfoangiphbmipaaMgTermOrder7
import Derived.Test.YtfoangiphbmipaaMgTermOrder16
import Derived.Deep.RegionWith
import Derived.Test.YtfoangiphbmipaaMgTermOrder1
/- The answer's Same and Equal of terms. -/
namespace Go.Proofs.Ytfoangiphbmipaa
open Go.RowKit

/-- Are two terms the same, but for their parts? -/
def ndE (all : Bool) (x y : Nd) : Bool := x.k == y.k && (x.s.toList == y.s.toList && ((x.tk == y.tk && x.tn == y.tn && x.ty.same y.ty) && (if all then x.n == y.n && (x.a == y.a && x.b == y.b) else x.n == y.n || x.k == 1)))
namespace Te
def same (all : Bool) : Te → Te → Bool
  | nil, nil => true
  | cons x ps r, cons y ps' r' => ndE all x y && ps.same all ps' && r.same all r'
  | _, _ => false
def same1 (all : Bool) (s t : Tm) : Bool := ndE all s.1 t.1 && s.2.same all t.2
theorem same_len {all : Bool} (f g : Te) (h : f.same all g = true) : f.len = g.len := by
  induction f generalizing g with
  | nil => cases g <;> simp [same] at h ⊢
  | cons x ps r _ ih =>
    cases g with
    | nil => simp [same] at h
    | cons y ps' r' =>
      simp only [same, Bool.and_eq_true] at h
      simp [len, ih r' h.2]
theorem same_split {all : Bool} (f g : Te) (j : Nat) (h : f.len = g.len) (hj : j < f.len) : f.same all g = ((f.take j).same all (g.take j) && (same1 all (f.at_ j) (g.at_ j) && (f.drop (j + 1)).same all (g.drop (j + 1)))) := by
  induction f generalizing g j with
  | nil => simp [len] at hj
  | cons x ps r _ ih =>
    cases g with
    | nil => simp [len] at h
    | cons y ps' r' =>
      cases j with
      | zero => simp [same, take, at_, drop, same1]
      | succ j =>
        have := ih r' j (by simpa [len] using h) (by simpa [len] using hj)
        simp only [same, take, at_, drop]
        rw [this]
        simp [Bool.and_assoc]
theorem same_take {all : Bool} (f g : Te) (j : Nat) (h : f.len = g.len) (hj : j < f.len) : (f.take (j + 1)).same all (g.take (j + 1)) = ((f.take j).same all (g.take j) && same1 all (f.at_ j) (g.at_ j)) := by
  induction f generalizing g j with
  | nil => simp [len] at hj
  | cons x ps r _ ih =>
    cases g with
    | nil => simp [len] at h
    | cons y ps' r' =>
      cases j with
      | zero => simp [same, take, at_, same1]
      | succ j =>
        have := ih r' j (by simpa [len] using h) (by simpa [len] using hj)
        simp only [same, take, at_] at this ⊢
        rw [this]
        simp [Bool.and_assoc]
end Te
set_option maxHeartbeats 2000000 in
set_option maxRecDepth 100000 in
theorem ralike_any (all : Bool) (f g : Te) (x y : Nd) (w : World) (h : TmL w.heap.size w (x, f)) (h' : TmL w.heap.size w (y, g)) (hs : x.ty.size ≤ 1000000) (hs' : y.ty.size ≤ 1000000) :
    Calls Try.prog 28 #[teVal x, teVal y, .bool all] w fun e w' => e = .returned (.bool (ndE all x y && decide (f.len = g.len))) ∧ Below w.heap.size w w' := by
  obtain ⟨A, c, hv⟩ := h.2.slice
  obtain ⟨A', c', hv'⟩ := h'.2.slice
  obtain ⟨q, hq⟩ : ∃ q, f.len = q := ⟨_, rfl⟩
  obtain ⟨q', hq'⟩ : ∃ q', g.len = q' := ⟨_, rfl⟩
  rw [hq] at hv ⊢
  rw [hq'] at hv' ⊢
  have hsame : ∀ w1 : World, Below w.heap.size w w1 → Calls Try.prog 37 #[.agg #[.int .i64 x.tk, .int .i64 x.tn, slv x.tu], .agg #[.int .i64 y.tk, .int .i64 y.tn, slv y.tu]] w1 fun e w' => e = .returned (.bool (x.tk == y.tk && x.tn == y.tn && x.ty.same y.ty)) ∧ Below w1.heap.size w1 w' := fun w1 hb =>
    rsame_any (x.ty.size + 1) x.ty y.ty x.tk x.tn y.tk y.tn _ _ w1 (by omega) hs hs' (h.1.up hb hb.size) (h'.1.up hb hb.size)
  obtain ⟨sm, hsm⟩ : ∃ sm, (x.tk == y.tk && x.tn == y.tn && x.ty.same y.ty) = sm := ⟨_, rfl⟩
  rw [hsm] at hsame
  obtain ⟨fin, hfin⟩ : ∃ fin, (if all then x.n == y.n && (x.a == y.a && x.b == y.b) else x.n == y.n || x.k == 1) = fin := ⟨_, rfl⟩
  have hN : ndE all x y = (x.k == y.k && (x.s.toList == y.s.toList && (sm && fin))) := by unfold ndE; rw [hsm, hfin]
  obtain ⟨R, hR⟩ : ∃ R, (x.k == y.k && (x.s.toList == y.s.toList && (sm && fin)) && decide (q = q')) = R := ⟨_, rfl⟩
  rw [hN, hR]
  obtain ⟨x0, x1, x2, x3, x4, ⟨xu1, xu2, xu3⟩, x6, ⟨xv1, xv2, xv3⟩, x8, x9⟩ := x
  obtain ⟨y0, y1, y2, y3, y4, ⟨yu1, yu2, yu3⟩, y6, ⟨yv1, yv2, yv3⟩, y8, y9⟩ := y
  dsimp only [slv, teVal] at hv hv' hsame hfin hR ⊢
  injection hv with e1 e2 e3
  injection hv' with e1' e2' e3'
  subst e1; subst e2; subst e3; subst e1'; subst e2'; subst e3'
  have HS := Lib.hid hsame
  have HF := Lib.hid hfin
  have HR := Lib.hid hR
  have HB0 := Lib.hid (show ∀ (cs cs' : Array Value) (t t' : TypeId), Below w.heap.size w ((w.alloc (Obj.cells cs t)).alloc (Obj.cells cs' t')) from fun cs cs' t t' => ((Below.refl _ w).alloc (Nat.le_refl _) _).alloc (by simp) _)
  clear h h' hs hs' hq hq' hsame hsm hN hfin hR
  by_cases h1 : x0 = y0
  case neg =>
    have f1 : (x0 != y0) = true := bne_iff_ne.2 h1
    go_enter Try.func28, Try.ntmps28
    go_wp2_with fail
    go_ret
    exact ⟨ret_bool (by rw [← HR.out, beq_eq_false_iff_ne.2 h1]; rfl), HB0.out _ _ _ _⟩
  have f1 : (x0 != y0) = false := by rw [h1]; simp
  subst h1
  obtain ⟨b2, hb2⟩ : ∃ b2, (x1.toList == y1.toList) = b2 := ⟨_, rfl⟩
  have HR2 := Lib.hid (show (b2 && (sm && fin) && decide (xv2 = yv2)) = R by rw [← HR.out, ← hb2]; simp)
  cases b2
  · go_enter Try.func28, Try.ntmps28
    go_wp2_with fail
    go_ret
    exact ⟨ret_bool (by rw [← HR2.out]; rfl), HB0.out _ _ _ _⟩
  obtain ⟨W0, hW0⟩ : ∃ W0, (w.alloc (Obj.cells #[.int .i64 x0, .string x1, .int .i64 x2, .int .i64 x3, .int .i64 x4, .slice xu1 xu2 xu3, .slice xv1 xv2 xv3, .int .i64 x8, .int .i64 x9] 29)).alloc (Obj.cells #[.int .i64 x0, .string y1, .int .i64 y2, .int .i64 y3, .int .i64 y4, .slice yu1 yu2 yu3, .slice yv1 yv2 yv3, .int .i64 y8, .int .i64 y9] 29) = W0 := ⟨_, rfl⟩
  have hb0 : Below w.heap.size w W0 := by rw [← hW0]; exact HB0.out _ _ _ _
  have hs0 : W0.heap.size = w.heap.size + 2 := by rw [← hW0]; simp
  have nX : NdAt W0 w.heap.size 0 ⟨x0, x1, x2, x3, x4, (xu1, xu2, xu3), x6, (xv1, xv2, xv3), x8, x9⟩ := NdAt.of_cells fun j u hu => by
    have h1 := cell_of_row (w.alloc (Obj.cells #[.int .i64 x0, .string x1, .int .i64 x2, .int .i64 x3, .int .i64 x4, .slice xu1 xu2 xu3, .slice xv1 xv2 xv3, .int .i64 x8, .int .i64 x9] 29)) w.heap.size j _ _ (0, 0) (heap_alloc_new w _)
    rw [← hW0, Nat.zero_add]
    refine ((Below.refl (w.heap.size + 1) _).alloc (by simp) _).cell (p := ⟨w.heap.size, j, none⟩) (by simp) |>.trans (h1.trans ?_)
    simpa [ndC, slv] using hu
  have nY : NdAt W0 (w.heap.size + 1) 0 ⟨x0, y1, y2, y3, y4, (yu1, yu2, yu3), y6, (yv1, yv2, yv3), y8, y9⟩ := NdAt.of_cells fun j u hu => by
    have h1 := heap_alloc_new (w.alloc (Obj.cells #[.int .i64 x0, .string x1, .int .i64 x2, .int .i64 x3, .int .i64 x4, .slice xu1 xu2 xu3, .slice xv1 xv2 xv3, .int .i64 x8, .int .i64 x9] 29)) (Obj.cells #[.int .i64 x0, .string y1, .int .i64 y2, .int .i64 y3, .int .i64 y4, .slice yu1 yu2 yu3, .slice yv1 yv2 yv3, .int .i64 y8, .int .i64 y9] 29)
    rw [hW0, World.size_alloc] at h1
    rw [Nat.zero_add, cell_of_row W0 _ j _ _ (0, 0) h1]
    simpa [ndC, slv] using hu
  have hcall := HS.out W0 hb0
  rw [← hW0] at hcall
  have HC := Lib.hid hcall
  have HW := Lib.hid (And.intro hW0 (And.intro hb0 (And.intro hs0 (And.intro nX nY))))
  clear hcall hW0 hb0 hs0 nX nY HS
  go_enter Try.func28, Try.ntmps28
  go_wp2_with fail
  refine HC.out.mono ?_
  rintro e w2 ⟨rfl, hb2'⟩
  obtain ⟨hW0, hb0, hs0, nX, nY⟩ := HW.out
  rw [hW0] at hb2'
  have mX := NdAt.below nX hb2' (by omega)
  have mY := NdAt.below nY hb2' (by omega)
  obtain ⟨c0, c1, c2, c3, c4, c5, c6, c7, c8⟩ := mX
  obtain ⟨d0, d1, d2, d3, d4, d5, d6, d7, d8⟩ := mY
  dsimp only [slv] at c5 c6 d5 d6
  simp only [Nat.zero_add] at c0 c1 c2 c3 c4 c5 c6 c7 c8 d0 d1 d2 d3 d4 d5 d6 d7 d8
  have HB2 := Lib.hid (show Below w.heap.size w w2 from hb0.trans (hb2'.mono hb0.size))
  clear hb2' hb2 hW0 hb0 hs0 nX nY
  cases sm
  · go_wp2_with fail
    go_ret
    exact ⟨ret_bool (by rw [← HR2.out]; rfl), HB2.out⟩
  by_cases h4 : xv2 = yv2
  case neg =>
    have f4 : ((xv2 : Int) != (yv2 : Int)) = true := bne_iff_ne.2 (by omega)
    have HR3 := Lib.hid (show false = R by rw [← HR2.out, decide_eq_false h4]; simp)
    clear h4
    go_wp2_with fail
    go_ret
    exact ⟨ret_bool HR3.out, HB2.out⟩
  have HR3 := Lib.hid (show fin = R by rw [← HR2.out, decide_eq_true h4]; simp)
  subst h4
  cases all
  · obtain ⟨b5, hb5⟩ : ∃ b5, (x2 == y2) = b5 := ⟨_, rfl⟩
    cases b5
    · go_wp2_with fail
      go_ret
      exact ⟨ret_bool (by rw [← HR3.out, ← HF.out, hb5]; rfl), HB2.out⟩
    · go_wp2_with fail
      go_ret
      exact ⟨ret_bool (by rw [← HR3.out, ← HF.out, hb5]; rfl), HB2.out⟩
  · obtain ⟨b5, hb5⟩ : ∃ b5, (x2 == y2) = b5 := ⟨_, rfl⟩
    cases b5
    · go_wp2_with fail
      go_ret
      exact ⟨ret_bool (by rw [← HR3.out, ← HF.out, hb5]; rfl), HB2.out⟩
    · clear HR2
      go_wp2_with fail
      all_goals
        go_ret
        refine ⟨ret_bool ?_, HB2.out⟩
        rw [← HR3.out, ← HF.out, hb5]
        simp_all
set_option maxHeartbeats 4000000 in
set_option maxRecDepth 100000 in
theorem rtesame_any (all : Bool) (m : Nat) : ∀ (f g : Te) (x y : Nd) (w : World), f.size < m → f.size ≤ 1000000 → g.size ≤ 1000000 → TmL w.heap.size w (x, f) → TmL w.heap.size w (y, g) →
    x.ty.size ≤ 1000000 → y.ty.size ≤ 1000000 → f.all (fun x => x.ty.size ≤ 1000000) → g.all (fun x => x.ty.size ≤ 1000000) →
    Calls Try.prog 21 #[teVal x, teVal y, .bool all] w fun e w' => e = .returned (.bool (ndE all x y && f.same all g)) ∧ Below w.heap.size w w' := by
  induction m with
  | zero => intro f g x y w h; omega
  | succ m ih =>
    intro f g x y w hm hs hs' h h' ht ht' ha ha'
    obtain ⟨A, c, hv⟩ := h.2.slice
    obtain ⟨A', c', hv'⟩ := h'.2.slice
    obtain ⟨q, hq⟩ : ∃ q, f.len = q := ⟨_, rfl⟩
    obtain ⟨q', hq'⟩ : ∃ q', g.len = q' := ⟨_, rfl⟩
    rw [hq] at hv
    rw [hq'] at hv'
    obtain ⟨N, hN⟩ : ∃ N, ndE all x y = N := ⟨_, rfl⟩
    rw [hN]
    have hal : ∀ w1 : World, Below w.heap.size w w1 → Calls Try.prog 28 #[teVal x, teVal y, .bool all] w1 fun e w' => e = .returned (.bool (N && decide (q = q'))) ∧ Below w1.heap.size w1 w' := fun w1 hb => by
      have := ralike_any all f g x y w1 (h.up hb hb.size) (h'.up hb hb.size) ht ht'
      rw [hN, hq, hq'] at this
      exact this
    have HL := Lib.hid (f.len_le_size)
    have hll : q ≤ 1000000 := by have := f.len_le_size; omega
    have hll' : q' ≤ 1000000 := by have := g.len_le_size; omega
    obtain ⟨x0, x1, x2, x3, x4, ⟨xu1, xu2, xu3⟩, x6, ⟨xv1, xv2, xv3⟩, x8, x9⟩ := x
    obtain ⟨y0, y1, y2, y3, y4, ⟨yu1, yu2, yu3⟩, y6, ⟨yv1, yv2, yv3⟩, y8, y9⟩ := y
    dsimp only [slv, teVal] at hv hv' hal ⊢
    injection hv with e1 e2 e3
    injection hv' with e1' e2' e3'
    subst e1; subst e2; subst e3; subst e1'; subst e2'; subst e3'
    have H := Lib.hid h.2
    have H' := Lib.hid h'.2
    have IH := Lib.hid ih
    have HQ := Lib.hid hq
    have HQ' := Lib.hid hq'
    have HAA := Lib.hid (And.intro ha ha')
    obtain ⟨w0, hw0⟩ : ∃ w0, w.alloc (Obj.cells #[.int .i64 x0, .string x1, .int .i64 x2, .int .i64 x3, .int .i64 x4, .slice xu1 xu2 xu3, .slice xv1 xv2 xv3, .int .i64 x8, .int .i64 x9] 29) = w0 := ⟨_, rfl⟩
    obtain ⟨W0, hW0⟩ : ∃ W0, w0.alloc (Obj.cells #[.int .i64 y0, .string y1, .int .i64 y2, .int .i64 y3, .int .i64 y4, .slice yu1 yu2 yu3, .slice yv1 yv2 yv3, .int .i64 y8, .int .i64 y9] 29) = W0 := ⟨_, rfl⟩
    have hs0 : w0.heap.size = w.heap.size + 1 := by rw [← hw0]; simp
    have hS0 : W0.heap.size = w.heap.size + 2 := by rw [← hW0]; simp; omega
    have hb0 : Below w.heap.size w W0 := by rw [← hW0, ← hw0]; exact ((Below.refl _ w).alloc (Nat.le_refl _) _).alloc (by simp) _
    have e6 : W0.cell? ⟨w.heap.size, 6, none⟩ = some (.slice xv1 xv2 xv3) := by
      have h1 := cell_of_row w0 w.heap.size 6 _ _ (0, 0) (by rw [← hw0]; exact heap_alloc_new w _)
      rw [← hW0]
      exact (((Below.refl (w.heap.size + 1) w0).alloc (by omega) _).cell (p := ⟨w.heap.size, 6, none⟩) (by simp)).trans h1
    have e6' : W0.cell? ⟨w.heap.size + 1, 6, none⟩ = some (.slice yv1 yv2 yv3) := by
      have h1 := cell_of_row W0 w0.heap.size 6 _ _ (0, 0) (by rw [← hW0]; exact heap_alloc_new w0 _)
      rw [hs0] at h1
      exact h1
    have hcall := hal W0 hb0
    rw [← hW0, ← hw0] at hcall
    have HC := Lib.hid hcall
    have HW := Lib.hid (show (w.alloc (Obj.cells #[.int .i64 x0, .string x1, .int .i64 x2, .int .i64 x3, .int .i64 x4, .slice xu1 xu2 xu3, .slice xv1 xv2 xv3, .int .i64 x8, .int .i64 x9] 29)).alloc (Obj.cells #[.int .i64 y0, .string y1, .int .i64 y2, .int .i64 y3, .int .i64 y4, .slice yu1 yu2 yu3, .slice yv1 yv2 yv3, .int .i64 y8, .int .i64 y9] 29) = W0 by rw [hw0, hW0])
    have HE := Lib.hid (And.intro e6 (And.intro e6' (And.intro hb0 hS0)))
    clear h ih h' ht ht' ha ha' hq hq' hcall hal hw0 hW0 hs0 hS0 hb0 e6 e6' hN
    go_enter Try.func21, Try.ntmps21
    go_wp2_with fail
    refine HC.out.mono ?_
    rintro e wg ⟨rfl, hbg⟩
    rw [HW.out] at hbg
    obtain ⟨e6, e6', hb0, hS0⟩ := HE.out
    have k6 : wg.cell? ⟨w.heap.size, 6, none⟩ = some (.slice xv1 xv2 xv3) := (hbg.cell (p := ⟨w.heap.size, 6, none⟩) (by simp only; omega)).trans e6
    have k6' : wg.cell? ⟨w.heap.size + 1, 6, none⟩ = some (.slice yv1 yv2 yv3) := (hbg.cell (p := ⟨w.heap.size + 1, 6, none⟩) (by simp only; omega)).trans e6'
    have HBG := Lib.hid (show Below w.heap.size w wg from hb0.trans (hbg.mono hb0.size))
    have hzg : w.heap.size + 2 ≤ wg.heap.size := by have := hbg.size; omega
    clear hbg e6 e6' hb0 hS0
    obtain ⟨b0, hb0⟩ : ∃ b0, (N && decide (xv2 = yv2)) = b0 := ⟨_, rfl⟩
    rw [hb0]
    cases b0
    · have hR : (N && f.same all g) = false := by
        cases hN : N with
        | false => rfl
        | true =>
          rw [hN] at hb0
          have hne : xv2 ≠ yv2 := by simpa using hb0
          cases hsf : f.same all g with
          | false => rfl
          | true =>
            have := f.same_len g hsf
            rw [HQ.out, HQ'.out] at this
            exact absurd this hne
      have HR := Lib.hid hR
      clear hb0 hR
      go_wp2_with fail
      go_ret
      exact ⟨ret_bool HR.out.symm, HBG.out⟩
    simp only [Bool.and_eq_true, decide_eq_true_eq] at hb0
    obtain ⟨rfl, h3⟩ := hb0
    subst h3
    have HFG := Lib.hid (show f.len = g.len by rw [HQ.out, HQ'.out])
    go_wp2_with fail
    go_loopw [7] (fun t7 wr => ∃ j : Nat, j ≤ xv2 ∧ t7 = .int .i64 j ∧ (f.take j).same all (g.take j) = true ∧ wr.cell? ⟨w.heap.size, 6, none⟩ = some (.slice xv1 xv2 xv3) ∧ wr.cell? ⟨w.heap.size + 1, 6, none⟩ = some (.slice yv1 xv2 yv3) ∧ Below w.heap.size w wr ∧ w.heap.size + 2 ≤ wr.heap.size) (fun t _ => xv2 - (intOf t).toNat)
    case atStart => exact ⟨0, Nat.zero_le _, rfl, by simp [Te.take_zero, Te.same], k6, k6', HBG.out, hzg⟩
    case round =>
      obtain ⟨j, hj, rfl, hja, e2, e3, hb, hz⟩ := hrel
      have HB := Lib.hid hb
      have HJA := Lib.hid hja
      clear hja hb k6 k6'
      by_cases hjl : j < xv2
      · have hjf : j < f.len := by rw [HQ.out]; exact hjl
        have hjg : j < g.len := by rw [HQ'.out]; exact hjl
        obtain ⟨b, off, cap, hv, _, _, hlt, hC⟩ := H.out.form (by omega)
        dsimp only [slv] at hv
        injection hv with hA hmid hcc
        clear hmid
        subst hA; subst hcc
        obtain ⟨b', off', cap', hv', _, _, hlt', hC'⟩ := H'.out.form (by omega)
        dsimp only [slv] at hv'
        injection hv' with hA' hmid' hcc'
        clear hmid'
        subst hA'; subst hcc'
        obtain ⟨n1, hch⟩ := teC_at hC j hjf
        obtain ⟨n2, hch2⟩ := teC_at hC' j hjg
        have m1 := NdAt.below (B := w.heap.size) n1 HB.out hlt
        have m2 := NdAt.below (B := w.heap.size) n2 HB.out hlt'
        have hch' := hch.up HB.out HB.out.size
        have hch3 := hch2.up HB.out HB.out.size
        have hsz := f.at_size j hjf
        have hsz' := g.at_size j hjg
        have hsp := f.same_split (all := all) g j HFG.out hjf
        have htk := f.same_take (all := all) g j HFG.out hjf
        have ha1 := Te.all_at HAA.out.1 j hjf
        have ha2 := Te.all_at HAA.out.2 j hjg
        have hrec := IH.out (f.at_ j).2 (g.at_ j).2 (f.at_ j).1 (g.at_ j).1 wr.drew (by omega) (by omega) (by omega) (hch'.below (Below.refl _ wr).drew) (hch3.below (Below.refl _ wr).drew) ha1.1 ha2.1 ha1.2 ha2.2
        clear n1 n2 hC hch hch' hsz hC' hch2 hch3 hsz' ha1 ha2
        generalize f.at_ j = p at *
        generalize g.at_ j = p' at *
        obtain ⟨⟨z0, z1, z2, z3, z4, ⟨zu1, zu2, zu3⟩, z6, ⟨zv1, zv2, zv3⟩, z8, z9⟩, zp⟩ := p
        obtain ⟨⟨o0, o1, o2, o3, o4, ⟨ou1, ou2, ou3⟩, o6, ⟨ov1, ov2, ov3⟩, o8, o9⟩, op⟩ := p'
        dsimp only [Te.same1] at hsp htk hrec
        dsimp only [teVal, slv] at hrec
        obtain ⟨X, hX⟩ : ∃ X, (ndE all ⟨z0, z1, z2, z3, z4, (zu1, zu2, zu3), z6, (zv1, zv2, zv3), z8, z9⟩ ⟨o0, o1, o2, o3, o4, (ou1, ou2, ou3), o6, (ov1, ov2, ov3), o8, o9⟩ && zp.same all op) = X := ⟨_, rfl⟩
        rw [hX] at hrec hsp htk
        obtain ⟨c0, c1, c2, c3, c4, c5, c6, c7, c8⟩ := m1
        obtain ⟨d0, d1, d2, d3, d4, d5, d6, d7, d8⟩ := m2
        dsimp only [slv] at c5 c6 d5 d6
        have HREC := Lib.hid hrec
        have HSP := Lib.hid (show f.same all g = (X && (f.drop (j + 1)).same all (g.drop (j + 1))) by rw [hsp, HJA.out]; rfl)
        have HTK := Lib.hid (show (f.take (j + 1)).same all (g.take (j + 1)) = X by rw [htk, HJA.out]; rfl)
        clear hrec hsp htk hX hjf hjg
        go_wp2_with fail
        go_region_with (go_at_call 21; refine HREC.out.mono ?_; rintro e w2 ⟨rfl, hb3⟩)
        all_goals
          have e2' := (hb3.cell (p := ⟨w.heap.size, 6, none⟩) (by show w.heap.size < wr.heap.size; omega)).trans e2
          have e3' := (hb3.cell (p := ⟨w.heap.size + 1, 6, none⟩) (by show w.heap.size + 1 < wr.heap.size; omega)).trans e3
          have HB3 := Lib.hid (show Below wr.heap.size wr w2 from (Below.refl _ wr).drew.trans hb3)
          clear hb3
          cases X
          · go_wp2_with fail
            go_ret
            exact ⟨ret_bool (by rw [HSP.out]; rfl), HB.out.trans (HB3.out.mono (by omega))⟩
          · go_wp2_with fail
            go_roundw
            case rel => exact ⟨j + 1, by omega, by go_num, HTK.out, e2', e3', HB.out.trans (HB3.out.mono (by omega)), Nat.le_trans hz HB3.out.size⟩
            case measure => simp [intOf]; omega
      · obtain rfl : j = xv2 := by omega
        have HT : Hid (f.take j = f) := Lib.hid (by rw [← HQ.out]; exact f.take_len)
        have HT' : Hid (g.take j = g) := Lib.hid (by rw [← HQ'.out]; exact g.take_len)
        go_wp2_with fail
        go_ret
        exact ⟨ret_bool (by rw [← HT.out, ← HT'.out, HJA.out]; rfl), HB.out⟩
end Go.Proofs.Ytfoangiphbmipaa
/- A drawn region by numbers, where S says what stays whatever is stored: one operation that may come up. -/
namespace Go.Proofs.Ytfoangiphbmipaa
open Go.RowKit
section
variable {P : Program} {ops : Array Oper} {Q : Exit → Act → World → Prop} {md : Region.Mode} {S : World → Prop}
/-- One operation that may come up is carried out: S is shown anew. -/
theorem ops_val {o : Oper} {i : Nat} {d : Option Tmp} {v : Value} {a : Act} {w w' : World} {K : Act → World → Prop}
    (hi : ops[i]? = some o) (hd : o.dst = d) (hw : Region.wanted o (yielded ops a.tmps) = true) (he : (execOp a.eval o).run P w = .ok (.value v) w') (hS : S w')
    (hk : K (a.put d v) w') : wpOp P ops Q i (fun a' w' => S w' ∧ K a' w') a w := by
  subst hd
  unfold wpOp
  simp only [hi]
  rw [if_pos hw]
  refine .inl ?_
  unfold Oper.wp
  rw [he]
  simp only [Oper.upon]
  exact ⟨hS, hk⟩
theorem ops_skip {o : Oper} {i : Nat} {a : Act} {w w' : World} {K : Act → World → Prop}
    (hi : ops[i]? = some o) (hw : Region.wanted o (yielded ops a.tmps) = true) (he : (execOp a.eval o).run P w = .ok .skip w') (hS : S w')
    (hd : o.dst = none) (hk : K a w') : wpOp P ops Q i (fun a' w' => S w' ∧ K a' w') a w := by
  unfold wpOp
  simp only [hi]
  rw [if_pos hw]
  refine .inl ?_
  unfold Oper.wp
  rw [he]
  simp only [Oper.upon]
  rw [hd]
  exact ⟨hS, hk⟩
theorem ops_call {o : Oper} {i : Nat} {d : Option Tmp} {f : FuncId} {args : Array Value} {a : Act} {w : World} {K : Act → World → Prop}
    (hi : ops[i]? = some o) (hd : o.dst = d) (hw : Region.wanted o (yielded ops a.tmps) = true) (he : (execOp a.eval o).run P w = .ok (.enter f args) w)
    (hc : Calls P f args w fun e w' => ∃ v, e = .returned v ∧ S w' ∧ K (a.put d v) w') : wpOp P ops Q i (fun a' w' => S w' ∧ K a' w') a w := by
  subst hd
  unfold wpOp
  simp only [hi]
  rw [if_pos hw]
  refine .inl ?_
  unfold Oper.wp
  rw [he]
  simp only [Oper.upon]
  refine hc.mono fun e w' ⟨v, hv, hS, hk⟩ => ?_
  subst hv
  exact ⟨hS, hk⟩
end
end Go.Proofs.Ytfoangiphbmipaa
