/- Texts of one proof, one behind the other. -/
import Derived.Test.YtfoangiphbmipaaMgTermOrder10
import Derived.Test.YtfoangiphbmipaaMgTermOrder3
import Derived.Test.YtfoangiphbmipaaMgTermOrder17
import Derived.Test.YtfoangiphbmipaaMgTermOrder8
import Derived.Test.YtfoangiphbmipaaMgTermOrder16
/- The answer's List of terms. -/
namespace Go.Proofs.Ytfoangiphbmipaa
open Go.RowKit Go.Shelf
attribute [local go_sem ↓] builtin_app

/-- Cells of terms, one behind the other. -/
def preC (L : List Tm) : List Value := L.flatMap fun t => ndC t.1
theorem preC_len (L : List Tm) : (preC L).length = L.length * 9 := ndCs_len L fun t => t.1
theorem preC_app (a b : List Tm) : preC (a ++ b) = preC a ++ preC b := by simp [preC]
theorem preC_one (L : List Tm) : ∀ u ∈ preC L, u.oneCell' = true := by
  intro u hu
  obtain ⟨t, _, h⟩ := List.mem_flatMap.1 hu
  exact ndC_one _ u h
theorem Rd.of_own9 {w : World} {base : Nat} {e : TypeId} {v : Value} {n : Nat} {xs : List Value} (h : w.ownsRow base e 9 v n xs) : Rd w 9 v n xs := Rd.of_own h
set_option maxHeartbeats 2000000 in
set_option maxRecDepth 100000 in
theorem rlist_any (m : Nat) : ∀ (f : Te) (x : Nd) (w : World), f.size < m → f.size < 1000000 → TmL w.heap.size w (x, f) →
    Calls Try.prog 6 #[teVal x] w fun e w' => ∃ v, e = .returned v ∧ Rd w' 9 v (1 + f.size) (preC ((x, f) :: f.pre)) ∧ Below w.heap.size w w' := by
  induction m with
  | zero => intro f x w h; omega
  | succ m ih =>
    intro f x w hm hs h
    obtain ⟨A, c, hv⟩ := h.2.slice
    obtain ⟨q, hq⟩ : ∃ q, f.len = q := ⟨_, rfl⟩
    obtain ⟨w1, hw1⟩ : ∃ w1, w.alloc (Obj.cells (ndC x).toArray 29) = w1 := ⟨_, rfl⟩
    have hs1 : w1.heap.size = w.heap.size + 1 := by rw [← hw1]; simp
    have hb1 : Below w.heap.size w w1 := by rw [← hw1]; exact (Below.refl _ _).alloc (Nat.le_refl _) _
    obtain ⟨w2, hw2⟩ : ∃ w2, w1.alloc (Obj.cells (ndC x).toArray 29) = w2 := ⟨_, rfl⟩
    have hs2 : w2.heap.size = w.heap.size + 2 := by rw [← hw2]; simp; omega
    have hb2 : Below w.heap.size w w2 := by rw [← hw2]; exact hb1.alloc (by omega) _
    have hx2 : w2.heap[w.heap.size]? = some (Obj.cells (ndC x).toArray 29) := by rw [← hw2]; exact (Below.heap_alloc _ _ _ (by omega)).trans (by rw [← hw1]; exact heap_alloc_new _ _)
    have own2 : w2.ownsRow (w.heap.size + 1) 29 9 (.slice (some ⟨w.heap.size + 1, 0, none⟩) 1 1) 1 (ndC x) := by
      have := own_full w1 (w.heap.size + 1) (by omega) 29 9 1 (ndC x) rfl (by unfold maxLen; omega)
      rw [hw2, hs1] at this
      exact this
    have e6 : w2.cell? ⟨w.heap.size, 6, none⟩ = some (slv x.u) := cell_of_row w2 _ 6 _ _ (0, 0) hx2
    dsimp only at hv
    rw [hq] at hv
    have H := Lib.hid h
    have IH := Lib.hid ih
    have HQ := Lib.hid hq
    have hql : q ≤ 1000000 := by have := f.len_le_size; omega
    have HW := Lib.hid (And.intro hw1 hw2)
    have H2 := Lib.hid (And.intro own2 (And.intro hb2 (And.intro hs2 e6)))
    obtain ⟨CX, hCX⟩ : ∃ CX, ndC x = CX := ⟨_, rfl⟩
    have HCX := Lib.hid hCX
    rw [hCX] at H2
    obtain ⟨P0, hP0⟩ : ∃ P0 : List Tm, P0 = [(x, f)] := ⟨_, rfl⟩
    have hPC : preC P0 = CX := by rw [hP0, ← hCX]; simp [preC]
    have HP0 := Lib.hid (And.intro hP0 hPC)
    have hsum : preC ((x, f) :: f.pre) = CX ++ preC f.pre := by rw [← hCX]; rfl
    rw [hsum]
    have hcl : CX.length = 9 := by rw [← hCX]; rfl
    have HCL := Lib.hid hcl
    obtain ⟨x0, x1, x2, x3, x4, ⟨xu1, xu2, xu3⟩, x6, ⟨xv1, xv2, xv3⟩, x8, x9⟩ := x
    dsimp only [slv, teVal, ndC] at hv HW H2 ⊢
    injection hv with e1 e2 e3
    subst e1; subst e2; subst e3
    clear h ih hq hw1 hw2 own2 hb2 hs2 e6 hb1 hs1 hx2 hCX hP0 hPC hsum hcl
    go_enter Try.func6, Try.ntmps6
    go_wp2_with fail
    rw [HW.out.1, HW.out.2]
    have hs1 : w1.heap.size = w.heap.size + 1 := by rw [← HW.out.1]; simp
    try rw [hs1]
    clear hs1
    go_loopw [3, 4] (fun t3 t4 wr => ∃ j : Nat, j ≤ xv2 ∧ t4 = .int .i64 j ∧ wr.ownsRow (w.heap.size + 1) 29 9 t3 (1 + (f.take j).size) (CX ++ preC (f.take j).pre) ∧ wr.cell? ⟨w.heap.size, 6, none⟩ = some (.slice xv1 xv2 xv3) ∧ Below w.heap.size w wr ∧ w.heap.size + 2 ≤ wr.heap.size) (fun _ t _ => xv2 - (intOf t).toNat)
    case atStart =>
      obtain ⟨k1, k2, k3, k4⟩ := H2.out
      exact ⟨0, Nat.zero_le _, rfl, by simpa [Te.take_zero, Te.size, Te.pre, preC] using k1, k4, k2, by omega⟩
    case round =>
      obtain ⟨j, hj, rfl, hown, e6, hb, hz⟩ := hrel
      have hts := f.size_take_le j
      have HB := Lib.hid hb
      have HOWN := Lib.hid hown
      clear hb
      by_cases hjl : j < xv2
      · have hjf : j < f.len := by rw [HQ.out]; exact hjl
        obtain ⟨A3, c3, rfl, _, _⟩ := own_form hown
        obtain ⟨b, off, cap, hv, _, _, hlt, hC⟩ := H.out.2.form (by simp only; omega)
        dsimp only [slv] at hv
        injection hv with hA hmid hcc
        clear hmid
        subst hA; subst hcc
        obtain ⟨n1, hch⟩ := teC_at hC j hjf
        have m1 := NdAt.below (B := w.heap.size) n1 HB.out hlt
        have hsz := f.at_size j hjf
        have hrec := IH.out (f.at_ j).2 (f.at_ j).1 wr (by omega) (by omega) (hch.up HB.out HB.out.size)
        have HST := Lib.hid (And.intro (f.size_take_step j hjf) (f.pre_take_step j hjf))
        have HLE := Lib.hid (f.size_take_le (j + 1))
        clear n1 hC hch hown
        generalize f.at_ j = p at *
        obtain ⟨⟨y0, y1, y2, y3, y4, ⟨yu1, yu2, yu3⟩, y6, ⟨yv1, yv2, yv3⟩, y8, y9⟩, yp⟩ := p
        dsimp only [teVal, slv] at hrec hsz
        obtain ⟨c0, c1, c2, c3', c4, c5, c6, c7, c8⟩ := m1
        dsimp only [slv] at c5 c6
        have HREC := Lib.hid hrec
        clear hrec hjf
        obtain ⟨n3, hn3⟩ : ∃ n3, 1 + (f.take j).size = n3 := ⟨_, rfl⟩
        rw [hn3] at HOWN ⊢
        go_wp2_with fail
        refine HREC.out.mono ?_
        rintro e w3 ⟨v3, rfl, hrd, hb3⟩
        obtain ⟨i0, hi0, hz0, hz1, hz2⟩ := info_parts teInfo
        have own3 := own_below HOWN.out hb3
        obtain ⟨A4, c4', rfl⟩ : ∃ A c, v3 = .slice A (1 + yp.size) c := by
          rcases hrd.2 with ⟨h0, _⟩ | ⟨b, off, cap, h, _⟩
          · omega
          · exact ⟨_, cap, h⟩
        have hle := HLE.out
        have hst := HST.out.1
        obtain ⟨v5, w5, hrun, hown5, hg5, _⟩ := run_append_rd (P := Try.prog) w3 (w.heap.size + 1) 25 25 29 i0 _ 9 112 Try.underlying25 hi0 hz0 hz1 hz2 rfl (by omega) (.slice A3 n3 c3) _ _ own3 _ _ _ hrd (preC_one _) (by unfold maxLen; omega) (by omega) (by have := hb3.size; omega)
        have hrun8 : (app_ #[25, 25] 25 #[.slice A3 n3 c3, .slice A4 (1 + yp.size) c4']).run Try.prog w3 = .ok v5 w5 := hrun
        have hb5 : Below (w.heap.size + 1) w3 w5 := (Below.refl _ _).grown hg5 (by have := hb3.size; omega) (fun k e => (own3.lt k e).1)
        have e6' : w5.cell? ⟨w.heap.size, 6, none⟩ = some (.slice (some ⟨b, off, none⟩) xv2 xv3) := (hb5.cell (p := ⟨w.heap.size, 6, none⟩) (by simp)).trans ((hb3.cell (p := ⟨w.heap.size, 6, none⟩) (by simp only; omega)).trans e6)
        have HO5 := Lib.hid hown5
        have HB5 := Lib.hid (And.intro hb3 (And.intro hb5 e6'))
        have HN3 := Lib.hid hn3
        clear hrun hown5 hg5 own3 hrd hb3 hb5 e6' hn3 c0 c1 c2 c3' c4 c5 c6 c7 c8 hle hst
        go_wp2_with fail
        go_roundw
        case rel =>
          obtain ⟨hb3, hb5, e6'⟩ := HB5.out
          refine ⟨j + 1, by omega, by go_num, ?_, e6', HB.out.trans ((hb3.mono (by omega)).trans (hb5.mono (by omega))), by have := hb3.size; have := hb5.size; omega⟩
          have h1 := HO5.out
          obtain ⟨k1, k2⟩ := HST.out
          rw [k2, preC_app, ← List.append_assoc]
          have e : 1 + (f.take (j + 1)).size = n3 + (1 + yp.size) := by rw [k1, ← HN3.out]; (try dsimp only); omega
          rw [e]
          exact h1
        case measure => simp [intOf]; omega
      · obtain rfl : j = xv2 := by omega
        have HT : Hid (f.take j = f) := Lib.hid (by rw [← HQ.out]; exact f.take_len)
        obtain ⟨A3, c3, rfl, _, _⟩ := own_form hown
        clear hown
        go_wp2_with fail
        go_ret
        have h1 := HOWN.out
        rw [HT.out] at h1
        refine ⟨.slice A3 (1 + f.size) c3, by rw [HT.out]; rfl, Rd.of_own9 h1, HB.out⟩
end Go.Proofs.Ytfoangiphbmipaa
/- An argument that is a type, opened. -/
namespace Go.Proofs.Ytfoangiphbmipaa
open Go.RowKit Go.ChangeShapes Go.WideShapes Go.ChangeAt Go.Deep

set_option maxRecDepth 100000 in
theorem ArgT1_open {H : Type} {enc : TypeId × Value → H} {W : World} {v : Value} {d : DataW H} {p : List MemPlace} {r : Reach} {base : Nat}
    (hv : Value.okWide Try.prog W r base 24 v) (h : DataW.Trod enc Try.prog W 0 (fun _ => true) true 24 v d p) : ∃ (k n : Int) (F : Fo) (u : Sl), v = tyVal k n (slv u) ∧ TyV W.heap.size W F (slv u) ∧ (Lit.int .i64 n).wf = true ∧ F.wf := by
  obtain ⟨cs, rfl, hsz⟩ := okWide_struct Try.underlying24 hv
  have hC : Try.prog.cellsOf 24 = 3 := by kernel_rfl
  rw [hC] at hsz
  obtain ⟨fuel, hf⟩ := h
  obtain ⟨ys, n', hn', _, hlen2, hyl, hfld⟩ := DataW.trod_struct Try.underlying24 hf
  have hI : Try.prog.cellsOf 3 = 1 := by kernel_rfl
  have hS : Try.prog.cellsOf 22 = 1 := by kernel_rfl
  have hyl' : ys.length = 3 := hyl
  match cs, hsz with
  | ⟨[c0, c1, c2]⟩, _ =>
    have q0 : DataW.trod enc Try.prog W 0 (fun _ => true) true n' 3 (([c0, c1, c2].drop 0).take (Try.prog.cellsOf 3)) = ys[0]? := hfld 0 _ rfl
    have q1 : DataW.trod enc Try.prog W 0 (fun _ => true) true n' 3 (([c0, c1, c2].drop 1).take (Try.prog.cellsOf 3)) = ys[1]? := hfld 1 _ rfl
    have q2 : DataW.trod enc Try.prog W 0 (fun _ => true) true n' 22 (([c0, c1, c2].drop 2).take (Try.prog.cellsOf 22)) = ys[2]? := hfld 2 _ rfl
    rw [hI, List.getElem?_eq_getElem (by omega)] at q0
    rw [hI, List.getElem?_eq_getElem (by omega)] at q1
    rw [hS, List.getElem?_eq_getElem (by omega)] at q2
    obtain ⟨k0, hk0, _, _⟩ := DataW.trod_int Try.underlying3 q0
    obtain ⟨k1, hk1, _, hw1⟩ := DataW.trod_int Try.underlying3 q1
    obtain ⟨F, u, hu, hF, hFw⟩ := types_read n' c2 _ q2
    simp at hk0 hk1
    subst hk0; subst hk1; subst hu
    exact ⟨k0, k1, F, u, rfl, hF, hw1, hFw⟩
end Go.Proofs.Ytfoangiphbmipaa
/- Arguments that are terms, or slices of them, opened. -/
namespace Go.Proofs.Ytfoangiphbmipaa
open Go.RowKit Go.ChangeShapes Go.WideShapes Go.ChangeAt Go.Deep

/-- Each number is one that an int may be. -/
def WfN (x : Nd) : Prop := (Lit.int .i64 x.k).wf = true ∧ (Lit.int .i64 x.n).wf = true ∧ (Lit.int .i64 x.tn).wf = true ∧ x.ty.wf ∧ (Lit.int .i64 x.a).wf = true ∧ (Lit.int .i64 x.b).wf = true
def teOf : List Tm → Te
  | [] => .nil
  | t :: r => .cons t.1 t.2 (teOf r)
theorem teOf_len (ts : List Tm) : (teOf ts).len = ts.length := by
  induction ts with
  | nil => rfl
  | cons t r ih => simp [teOf, Te.len, ih]
theorem teOf_all {P : Nd → Prop} (ts : List Tm) (h : ∀ i (hi : i < ts.length), P ts[i].1 ∧ ts[i].2.all P) : (teOf ts).all P := by
  induction ts with
  | nil => trivial
  | cons t r ih =>
    have h0 := h 0 (by simp)
    exact ⟨h0.1, h0.2, ih fun i hi => by have := h (i + 1) (by simp; omega); simpa using this⟩
theorem teOf_cells {B : Nat} {w : World} {b : Nat} (ts : List Tm) (off : Nat) (h : ∀ i (hi : i < ts.length), NdAt w b (off + i * 9) ts[i].1 ∧ TmL B w ts[i]) : TeC B w (teOf ts) b off := by
  induction ts generalizing off with
  | nil => exact teC_nil
  | cons t r ih =>
    have h0 := h 0 (by simp)
    simp only [Nat.zero_mul, Nat.add_zero, List.getElem_cons_zero] at h0
    refine teC_cons.2 ⟨h0.1, h0.2.1, h0.2.2, ih (off + 9) fun i hi => ?_⟩
    have h1 := h (i + 1) (by simp; omega)
    simp only [List.getElem_cons_succ] at h1
    rw [show off + 9 + i * 9 = off + (i + 1) * 9 by omega]
    exact h1
section
variable {H : Type} {enc : TypeId × Value → H} {W : World}
/-- A term's nine cells, read. -/
theorem term_cells (n' : Nat) (cs : List Value) (hlen : cs.length = 9) (x : DataW H × List MemPlace) (h : DataW.trod enc Try.prog W 0 (fun _ => true) true n' 29 cs = some x)
    (ih : ∀ m, m < n' → ∀ (v : Value) (x : DataW H × List MemPlace), DataW.trod enc Try.prog W 0 (fun _ => true) true m 25 [v] = some x → ∃ (F : Te) (u : Sl), v = slv u ∧ TeV W.heap.size W F v ∧ F.all WfN) :
    ∃ t : Tm, cs = ndC t.1 ∧ TmL W.heap.size W t ∧ WfN t.1 ∧ t.2.all WfN := by
  obtain ⟨ys, n2, hn2, _, _, hyl, hfld⟩ := DataW.trod_struct Try.underlying29 h
  have hI : Try.prog.cellsOf 3 = 1 := by kernel_rfl
  have hS : Try.prog.cellsOf 9 = 1 := by kernel_rfl
  have hT : Try.prog.cellsOf 24 = 3 := by kernel_rfl
  have hL : Try.prog.cellsOf 25 = 1 := by kernel_rfl
  have hLT : Try.prog.cellsOf 22 = 1 := by kernel_rfl
  have hP : Try.prog.cellsOf 27 = 2 := by kernel_rfl
  have hyl' : ys.length = 6 := hyl
  match cs, hlen with
  | [e0, e1, e2, e3, e4, e5, e6, e7, e8], _ =>
    have q0 : DataW.trod enc Try.prog W 0 (fun _ => true) true n2 3 (([e0, e1, e2, e3, e4, e5, e6, e7, e8].drop 0).take (Try.prog.cellsOf 3)) = ys[0]? := hfld 0 _ rfl
    have q1 : DataW.trod enc Try.prog W 0 (fun _ => true) true n2 9 (([e0, e1, e2, e3, e4, e5, e6, e7, e8].drop 1).take (Try.prog.cellsOf 9)) = ys[1]? := hfld 1 _ rfl
    have q2 : DataW.trod enc Try.prog W 0 (fun _ => true) true n2 3 (([e0, e1, e2, e3, e4, e5, e6, e7, e8].drop 2).take (Try.prog.cellsOf 3)) = ys[2]? := hfld 2 _ rfl
    have q3 : DataW.trod enc Try.prog W 0 (fun _ => true) true n2 24 (([e0, e1, e2, e3, e4, e5, e6, e7, e8].drop 3).take (Try.prog.cellsOf 24)) = ys[3]? := hfld 3 _ rfl
    have q4 : DataW.trod enc Try.prog W 0 (fun _ => true) true n2 25 (([e0, e1, e2, e3, e4, e5, e6, e7, e8].drop 6).take (Try.prog.cellsOf 25)) = ys[4]? := hfld 4 _ rfl
    have q5 : DataW.trod enc Try.prog W 0 (fun _ => true) true n2 27 (([e0, e1, e2, e3, e4, e5, e6, e7, e8].drop 7).take (Try.prog.cellsOf 27)) = ys[5]? := hfld 5 _ rfl
    rw [hI, List.getElem?_eq_getElem (by omega)] at q0 q2
    rw [hS, List.getElem?_eq_getElem (by omega)] at q1
    rw [hT, List.getElem?_eq_getElem (by omega)] at q3
    rw [hL, List.getElem?_eq_getElem (by omega)] at q4
    rw [hP, List.getElem?_eq_getElem (by omega)] at q5
    obtain ⟨k0, hk0, _, hw0⟩ := DataW.trod_int Try.underlying3 q0
    obtain ⟨s0, hs0, _, _⟩ := DataW.trod_string Try.underlying9 q1
    obtain ⟨k2, hk2, _, hw2⟩ := DataW.trod_int Try.underlying3 q2
    obtain ⟨zs, n3, _, _, _, hzl, hzf⟩ := DataW.trod_struct Try.underlying24 q3
    have hzl' : zs.length = 3 := hzl
    have r0 : DataW.trod enc Try.prog W 0 (fun _ => true) true n3 3 (([e3, e4, e5].drop 0).take (Try.prog.cellsOf 3)) = zs[0]? := hzf 0 _ rfl
    have r1 : DataW.trod enc Try.prog W 0 (fun _ => true) true n3 3 (([e3, e4, e5].drop 1).take (Try.prog.cellsOf 3)) = zs[1]? := hzf 1 _ rfl
    have r2 : DataW.trod enc Try.prog W 0 (fun _ => true) true n3 22 (([e3, e4, e5].drop 2).take (Try.prog.cellsOf 22)) = zs[2]? := hzf 2 _ rfl
    rw [hI, List.getElem?_eq_getElem (by omega)] at r0 r1
    rw [hLT, List.getElem?_eq_getElem (by omega)] at r2
    obtain ⟨k3, hk3, _, _⟩ := DataW.trod_int Try.underlying3 r0
    obtain ⟨k4, hk4, _, hw4⟩ := DataW.trod_int Try.underlying3 r1
    obtain ⟨ty, tu, htu, hty, htw⟩ := types_read n3 e5 _ r2
    obtain ⟨F, u, hu, hF, hFw⟩ := ih n2 (by omega) e6 _ q4
    obtain ⟨ss, n4, _, _, _, hsl, hsf⟩ := DataW.trod_struct Try.underlying27 q5
    have hsl' : ss.length = 2 := hsl
    have t0 : DataW.trod enc Try.prog W 0 (fun _ => true) true n4 3 (([e7, e8].drop 0).take (Try.prog.cellsOf 3)) = ss[0]? := hsf 0 _ rfl
    have t1 : DataW.trod enc Try.prog W 0 (fun _ => true) true n4 3 (([e7, e8].drop 1).take (Try.prog.cellsOf 3)) = ss[1]? := hsf 1 _ rfl
    rw [hI, List.getElem?_eq_getElem (by omega)] at t0 t1
    obtain ⟨k7, hk7, _, hw7⟩ := DataW.trod_int Try.underlying3 t0
    obtain ⟨k8, hk8, _, hw8⟩ := DataW.trod_int Try.underlying3 t1
    simp at hk0 hs0 hk2 hk3 hk4 hk7 hk8
    subst hk0; subst hs0; subst hk2; subst hk3; subst hk4; subst hk7; subst hk8; subst htu; subst hu
    exact ⟨(⟨k0, s0, k2, k3, k4, tu, ty, u, k7, k8⟩, F), rfl, ⟨hty, hF⟩, ⟨hw0, hw2, hw4, htw, hw7, hw8⟩, hFw⟩
set_option maxRecDepth 100000 in
theorem terms_read (fuel : Nat) : ∀ (v : Value) (x : DataW H × List MemPlace), DataW.trod enc Try.prog W 0 (fun _ => true) true fuel 25 [v] = some x → ∃ (F : Te) (u : Sl), v = slv u ∧ TeV W.heap.size W F v ∧ F.all WfN := by
  induction fuel using Nat.strongRecOn with
  | ind fuel ih =>
    intro v x h
    rcases DataW.trod_slice Try.underlying25 h with ⟨hcs, _⟩ | ⟨a, len, cap, elems, rest, n, hfu, hcs, _, _, hl, hm, hlen, hel, _, _⟩
    · simp at hcs
      subst hcs
      exact ⟨.nil, (none, 0, 0), rfl, teV_nil.2 ⟨none, 0, rfl⟩, trivial⟩
    · simp at hcs
      subst hcs
      have hC : Try.prog.cellsOf 29 = 9 := by kernel_rfl
      rw [hC] at hel
      have key : ∀ i, i < len → ∃ t : Tm, (∀ j u, (ndC t.1)[j]? = some u → W.cell? ((a.add (i * 9)).add j) = some u) ∧ TmL W.heap.size W t ∧ WfN t.1 ∧ t.2.all WfN := by
        intro i hil
        have he := hel i hil
        rw [List.getElem?_eq_getElem (by omega)] at he
        obtain ⟨cs', hc, ht'⟩ := Option.bind_eq_some_iff.1 he
        obtain ⟨_, hcl, hat⟩ := World.cells?_some hc
        obtain ⟨t, htc, hL, hw1, hw2⟩ := term_cells n cs' (by simpa using hcl) _ ht' (fun m hm => ih m (by omega))
        refine ⟨t, fun j u hu => ?_, hL, hw1, hw2⟩
        have hj : j < 9 := by have := (List.getElem?_eq_some_iff.1 hu).1; rwa [show (ndC t.1).length = 9 from rfl] at this
        rw [hat j hj, htc]
        exact hu
      by_cases h0 : len = 0
      · subst h0
        exact ⟨.nil, (some a, 0, cap), rfl, teV_nil.2 ⟨_, _, rfl⟩, trivial⟩
      · obtain ⟨b, off, spot⟩ := a
        obtain ⟨t0, hc0, _⟩ := key 0 (by omega)
        have hc00 := hc0 0 _ rfl
        have hspot : spot = none := by simpa [Addr.add] using World.cell?_spot hc00
        subst hspot
        have hb : b < W.heap.size := by simpa [Addr.add] using World.block_lt_of_cell? _ _ hc00
        obtain ⟨ts, htl, hP⟩ := listOf _ len key
        have hTC : TeC W.heap.size W (teOf ts) b off := teOf_cells ts off fun i hi => by
          obtain ⟨h1, h2, _⟩ := hP i hi
          refine ⟨NdAt.of_cells fun j u hu => ?_, h2⟩
          have := h1 j u hu
          simpa only [Addr.add_lit] using this
        have hWF : (teOf ts).all WfN := teOf_all ts fun i hi => (hP i hi).2.2
        cases ts with
        | nil => simp at htl; omega
        | cons t r =>
          refine ⟨teOf (t :: r), (some ⟨b, off, none⟩, len, cap), rfl, teV_cons.2 ⟨b, off, cap, ?_, ?_, hm, hb, hTC⟩, hWF⟩
          · rw [teOf_len, ← htl]; rfl
          · rw [teOf_len]; simp at htl; omega
/-- What is known of an argument that is a slice of terms. -/
def ArgE (w : World) (v : Value) : Prop := ∃ F : Te, TeV w.heap.size w F v ∧ F.all WfN
theorem ArgE_open {r : Reach} {b0 : Nat} {v : Value} {d : DataW H} {p : List MemPlace} (hval : Value.okWide Try.prog W r b0 25 v)
    (h : DataW.Trod enc Try.prog W 0 (fun _ => true) true 25 v d p) : ArgE W v := by
  obtain ⟨a0, len, cap, rfl⟩ := okWide_slice Try.underlying25 hval
  obtain ⟨fuel, hf⟩ := h
  obtain ⟨F, _, _, hF, hw⟩ := terms_read fuel _ _ hf
  exact ⟨F, hF, hw⟩
theorem ArgE1_open {r : Reach} {b0 : Nat} {v : Value} {d : DataW H} {p : List MemPlace} (hval : Value.okWide Try.prog W r b0 29 v)
    (h : DataW.Trod enc Try.prog W 0 (fun _ => true) true 29 v d p) : ∃ t : Tm, v = teVal t.1 ∧ TmL W.heap.size W t ∧ WfN t.1 ∧ t.2.all WfN := by
  obtain ⟨cs, rfl, hsz⟩ := okWide_struct Try.underlying29 hval
  have hC : Try.prog.cellsOf 29 = 9 := by kernel_rfl
  rw [hC] at hsz
  obtain ⟨fuel, hf⟩ := h
  obtain ⟨t, ht, hL, h1, h2⟩ := term_cells fuel cs.toList (by simpa using hsz) _ hf (fun m _ => terms_read m)
  refine ⟨t, ?_, hL, h1, h2⟩
  show Value.agg cs = Value.agg (ndC t.1).toArray
  rw [← ht]
end
end Go.Proofs.Ytfoangiphbmipaa
