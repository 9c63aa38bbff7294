/- Texts of one proof, one behind the other. -/
import Derived.Test.YtglmhdlkhnlkiaaMgTermStops1
import Derived.Test.YtglmhdlkhnlkiaaProg
import Derived.ProofKit
import Derived.OpenShut
import Derived.Deep.Slices
import Derived.Test.YtglmhdlkhnlkiaaMgTermStops5
import Derived.Test.YtglmhdlkhnlkiaaMgTermStops8
import Derived.Deep.RegionWith
/- An argument that is a slice of types, opened. -/
namespace Go.Proofs.Ytglmhdlkhnlkiaa
open Go.RowKit Go.ChangeShapes Go.WideShapes Go.ChangeAt Go.Deep

namespace Fo
/-- Each number is one that an int may be. -/
def wf : Fo → Prop
  | nil => True
  | cons _ n _ ps r => (Lit.int .i64 n).wf = true ∧ ps.wf ∧ r.wf
theorem wf_app {f g : Fo} (h : f.wf) (k : g.wf) : (f.app g).wf := by
  induction f with
  | nil => exact k
  | cons _ _ _ _ r _ ih => exact ⟨h.1, h.2.1, ih h.2.2⟩
end Fo
theorem listOf {α : Type} (P : Nat → α → Prop) (n : Nat) (h : ∀ i, i < n → ∃ t, P i t) : ∃ ts : List α, ts.length = n ∧ ∀ i (hi : i < ts.length), P i ts[i] := by
  induction n with
  | zero => exact ⟨[], rfl, by simp⟩
  | succ n ih =>
    obtain ⟨ts, hl, hP⟩ := ih (fun i hi => h i (by omega))
    obtain ⟨t, ht⟩ := h n (by omega)
    refine ⟨ts ++ [t], by simp [hl], fun i hi => ?_⟩
    rcases Nat.lt_or_ge i ts.length with hlt | hge
    · rw [List.getElem_append_left hlt]; exact hP i hlt
    · have : i = ts.length := by simp at hi; omega
      subst this
      have e : (ts ++ [t])[ts.length] = t := by simp
      rw [e, hl]
      exact ht
def foOf : List (Int × Int × Sl × Fo) → Fo
  | [] => .nil
  | t :: r => .cons t.1 t.2.1 t.2.2.1 t.2.2.2 (foOf r)
theorem foOf_len (ts : List (Int × Int × Sl × Fo)) : (foOf ts).len = ts.length := by
  induction ts with
  | nil => rfl
  | cons t r ih => simp [foOf, Fo.len, ih]
theorem foOf_wf (ts : List (Int × Int × Sl × Fo)) (h : ∀ i (hi : i < ts.length), (Lit.int .i64 ts[i].2.1).wf = true ∧ ts[i].2.2.2.wf) : (foOf ts).wf := by
  induction ts with
  | nil => trivial
  | cons t r ih =>
    have h0 := h 0 (by simp)
    exact ⟨h0.1, h0.2, ih fun i hi => by have := h (i + 1) (by simp; omega); simpa using this⟩
theorem foOf_cells {B : Nat} {w : World} {b : Nat} (ts : List (Int × Int × Sl × Fo)) (off : Nat)
    (h : ∀ i (hi : i < ts.length), w.cell? ⟨b, off + i * 3, none⟩ = some (.int .i64 ts[i].1) ∧ w.cell? ⟨b, off + i * 3 + 1, none⟩ = some (.int .i64 ts[i].2.1) ∧ w.cell? ⟨b, off + i * 3 + 2, none⟩ = some (slv ts[i].2.2.1) ∧ TyV B w ts[i].2.2.2 (slv ts[i].2.2.1)) : TyC B w (foOf ts) b off := by
  induction ts generalizing off with
  | nil => exact tyC_nil
  | cons t r ih =>
    have h0 := h 0 (by simp)
    simp only [Nat.zero_mul, Nat.add_zero, List.getElem_cons_zero] at h0
    refine tyC_cons.2 ⟨h0.1, h0.2.1, h0.2.2.1, h0.2.2.2, ih (off + 3) fun i hi => ?_⟩
    have h1 := h (i + 1) (by simp; omega)
    simp only [List.getElem_cons_succ] at h1
    rw [show off + 3 + i * 3 = off + (i + 1) * 3 by omega]
    exact h1
set_option maxRecDepth 100000 in
theorem types_read {H : Type} {enc : TypeId × Value → H} {W : World} (fuel : Nat) : ∀ (v : Value) (x : DataW H × List MemPlace), DataW.trod enc Try.prog W 0 (fun _ => true) true fuel 22 [v] = some x → ∃ (F : Fo) (u : Sl), v = slv u ∧ TyV W.heap.size W F v ∧ F.wf := by
  induction fuel using Nat.strongRecOn with
  | ind fuel ih =>
    intro v x h
    rcases DataW.trod_slice Try.underlying22 h with ⟨hcs, _⟩ | ⟨a, len, cap, elems, rest, n, hfu, hcs, _, _, hl, hm, hlen, hel, _, _⟩
    · simp at hcs
      subst hcs
      exact ⟨.nil, (none, 0, 0), rfl, tyV_nil.2 ⟨none, 0, rfl⟩, trivial⟩
    · simp at hcs
      subst hcs
      have hC : Try.prog.cellsOf 24 = 3 := by kernel_rfl
      have hI : Try.prog.cellsOf 3 = 1 := by kernel_rfl
      have hS : Try.prog.cellsOf 22 = 1 := by kernel_rfl
      rw [hC] at hel
      have key : ∀ i, i < len → ∃ t : Int × Int × Sl × Fo, W.cell? (a.add (i * 3)) = some (.int .i64 t.1) ∧ W.cell? ((a.add (i * 3)).add 1) = some (.int .i64 t.2.1) ∧ W.cell? ((a.add (i * 3)).add 2) = some (slv t.2.2.1) ∧ TyV W.heap.size W t.2.2.2 (slv t.2.2.1) ∧ (Lit.int .i64 t.2.1).wf = true ∧ t.2.2.2.wf := by
        intro i hil
        have he := hel i hil
        rw [List.getElem?_eq_getElem (by omega)] at he
        obtain ⟨cs', hc, ht'⟩ := Option.bind_eq_some_iff.1 he
        obtain ⟨ys, n', hn', _, hlen2, hyl, hfld⟩ := DataW.trod_struct Try.underlying24 ht'
        rw [hC] at hlen2
        obtain ⟨_, hcl, hat⟩ := World.cells?_some hc
        have q0 : DataW.trod enc Try.prog W 0 (fun _ => true) true n' 3 ((cs'.drop 0).take (Try.prog.cellsOf 3)) = ys[0]? := hfld 0 _ rfl
        have q1 : DataW.trod enc Try.prog W 0 (fun _ => true) true n' 3 ((cs'.drop 1).take (Try.prog.cellsOf 3)) = ys[1]? := hfld 1 _ rfl
        have q2 : DataW.trod enc Try.prog W 0 (fun _ => true) true n' 22 ((cs'.drop 2).take (Try.prog.cellsOf 22)) = ys[2]? := hfld 2 _ rfl
        have hyl' : ys.length = 3 := hyl
        rw [hI, List.getElem?_eq_getElem (by omega)] at q0
        rw [hI, List.getElem?_eq_getElem (by omega)] at q1
        rw [hS, List.getElem?_eq_getElem (by omega)] at q2
        obtain ⟨k0, hk0, _, _⟩ := DataW.trod_int Try.underlying3 q0
        obtain ⟨k1, hk1, _, hw1⟩ := DataW.trod_int Try.underlying3 q1
        match cs', hlen2 with
        | [c0, c1, c2], _ =>
          obtain ⟨F, u, hu, hF, hFw⟩ := ih n' (by omega) c2 _ q2
          simp at hk0 hk1
          subst hk0; subst hk1; subst hu
          refine ⟨(k0, k1, u, F), ?_, ?_, ?_, hF, hw1, hFw⟩
          · have := hat 0 (by omega)
            simpa [Addr.add] using this
          · exact hat 1 (by omega)
          · exact hat 2 (by omega)
      by_cases h0 : len = 0
      · subst h0
        exact ⟨.nil, (some a, 0, cap), rfl, tyV_nil.2 ⟨_, _, rfl⟩, trivial⟩
      · obtain ⟨b, off, spot⟩ := a
        obtain ⟨t0, hc0, _⟩ := key 0 (by omega)
        have hspot : spot = none := by simpa [Addr.add] using World.cell?_spot hc0
        subst hspot
        have hb : b < W.heap.size := by simpa [Addr.add] using World.block_lt_of_cell? _ _ hc0
        obtain ⟨ts, htl, hP⟩ := listOf _ len key
        have hTC : TyC W.heap.size W (foOf ts) b off := foOf_cells ts off fun i hi => by
          have hP2 := hP i hi
          simp only [Addr.add_lit] at hP2
          exact ⟨hP2.1, hP2.2.1, hP2.2.2.1, hP2.2.2.2.1⟩
        have hWF : (foOf ts).wf := foOf_wf ts fun i hi => (hP i hi).2.2.2.2
        cases ts with
        | nil => simp at htl; omega
        | cons t r =>
          refine ⟨foOf (t :: r), (some ⟨b, off, none⟩, len, cap), rfl, tyV_cons.2 ⟨b, off, cap, ?_, ?_, hm, hb, hTC⟩, hWF⟩
          · rw [foOf_len, ← htl]; rfl
          · rw [foOf_len]; simp at htl; omega
theorem ArgTy_open {H : Type} {enc : TypeId × Value → H} {W : World} {v : Value} {d : DataW H} {p : List MemPlace}
    (h : DataW.Trod enc Try.prog W 0 (fun _ => true) true 22 v d p) (hc : v.cells = #[v]) : ∃ F, TyV W.heap.size W F v := by
  obtain ⟨fuel, hf⟩ := h
  rw [hc] at hf
  obtain ⟨F, _, _, hF, _⟩ := types_read fuel v _ hf
  exact ⟨F, hF⟩
end Go.Proofs.Ytglmhdlkhnlkiaa
/- An argument that is a type, opened. -/
namespace Go.Proofs.Ytglmhdlkhnlkiaa
open Go.RowKit Go.ChangeShapes Go.WideShapes Go.ChangeAt Go.Deep

set_option maxRecDepth 100000 in
theorem ArgT1_open {H : Type} {enc : TypeId × Value → H} {W : World} {v : Value} {d : DataW H} {p : List MemPlace} {r : Reach} {base : Nat}
    (hv : Value.okWide Try.prog W r base 24 v) (h : DataW.Trod enc Try.prog W 0 (fun _ => true) true 24 v d p) : ∃ (k n : Int) (F : Fo) (u : Sl), v = tyVal k n (slv u) ∧ TyV W.heap.size W F (slv u) ∧ (Lit.int .i64 n).wf = true ∧ F.wf := by
  obtain ⟨cs, rfl, hsz⟩ := okWide_struct Try.underlying24 hv
  have hC : Try.prog.cellsOf 24 = 3 := by kernel_rfl
  rw [hC] at hsz
  obtain ⟨fuel, hf⟩ := h
  obtain ⟨ys, n', hn', _, hlen2, hyl, hfld⟩ := DataW.trod_struct Try.underlying24 hf
  have hI : Try.prog.cellsOf 3 = 1 := by kernel_rfl
  have hS : Try.prog.cellsOf 22 = 1 := by kernel_rfl
  have hyl' : ys.length = 3 := hyl
  match cs, hsz with
  | ⟨[c0, c1, c2]⟩, _ =>
    have q0 : DataW.trod enc Try.prog W 0 (fun _ => true) true n' 3 (([c0, c1, c2].drop 0).take (Try.prog.cellsOf 3)) = ys[0]? := hfld 0 _ rfl
    have q1 : DataW.trod enc Try.prog W 0 (fun _ => true) true n' 3 (([c0, c1, c2].drop 1).take (Try.prog.cellsOf 3)) = ys[1]? := hfld 1 _ rfl
    have q2 : DataW.trod enc Try.prog W 0 (fun _ => true) true n' 22 (([c0, c1, c2].drop 2).take (Try.prog.cellsOf 22)) = ys[2]? := hfld 2 _ rfl
    rw [hI, List.getElem?_eq_getElem (by omega)] at q0
    rw [hI, List.getElem?_eq_getElem (by omega)] at q1
    rw [hS, List.getElem?_eq_getElem (by omega)] at q2
    obtain ⟨k0, hk0, _, _⟩ := DataW.trod_int Try.underlying3 q0
    obtain ⟨k1, hk1, _, hw1⟩ := DataW.trod_int Try.underlying3 q1
    obtain ⟨F, u, hu, hF, hFw⟩ := types_read n' c2 _ q2
    simp at hk0 hk1
    subst hk0; subst hk1; subst hu
    exact ⟨k0, k1, F, u, rfl, hF, hw1, hFw⟩
end Go.Proofs.Ytglmhdlkhnlkiaa
/- Arguments that are terms, or slices of them, opened. -/
namespace Go.Proofs.Ytglmhdlkhnlkiaa
open Go.RowKit Go.ChangeShapes Go.WideShapes Go.ChangeAt Go.Deep

/-- Each number is one that an int may be. -/
def WfN (x : Nd) : Prop := (Lit.int .i64 x.k).wf = true ∧ (Lit.int .i64 x.n).wf = true ∧ (Lit.int .i64 x.tn).wf = true ∧ x.ty.wf ∧ (Lit.int .i64 x.a).wf = true ∧ (Lit.int .i64 x.b).wf = true
def teOf : List Tm → Te
  | [] => .nil
  | t :: r => .cons t.1 t.2 (teOf r)
theorem teOf_len (ts : List Tm) : (teOf ts).len = ts.length := by
  induction ts with
  | nil => rfl
  | cons t r ih => simp [teOf, Te.len, ih]
theorem teOf_all {P : Nd → Prop} (ts : List Tm) (h : ∀ i (hi : i < ts.length), P ts[i].1 ∧ ts[i].2.all P) : (teOf ts).all P := by
  induction ts with
  | nil => trivial
  | cons t r ih =>
    have h0 := h 0 (by simp)
    exact ⟨h0.1, h0.2, ih fun i hi => by have := h (i + 1) (by simp; omega); simpa using this⟩
theorem teOf_cells {B : Nat} {w : World} {b : Nat} (ts : List Tm) (off : Nat) (h : ∀ i (hi : i < ts.length), NdAt w b (off + i * 9) ts[i].1 ∧ TmL B w ts[i]) : TeC B w (teOf ts) b off := by
  induction ts generalizing off with
  | nil => exact teC_nil
  | cons t r ih =>
    have h0 := h 0 (by simp)
    simp only [Nat.zero_mul, Nat.add_zero, List.getElem_cons_zero] at h0
    refine teC_cons.2 ⟨h0.1, h0.2.1, h0.2.2, ih (off + 9) fun i hi => ?_⟩
    have h1 := h (i + 1) (by simp; omega)
    simp only [List.getElem_cons_succ] at h1
    rw [show off + 9 + i * 9 = off + (i + 1) * 9 by omega]
    exact h1
section
variable {H : Type} {enc : TypeId × Value → H} {W : World}
/-- A term's nine cells, read. -/
theorem term_cells (n' : Nat) (cs : List Value) (hlen : cs.length = 9) (x : DataW H × List MemPlace) (h : DataW.trod enc Try.prog W 0 (fun _ => true) true n' 29 cs = some x)
    (ih : ∀ m, m < n' → ∀ (v : Value) (x : DataW H × List MemPlace), DataW.trod enc Try.prog W 0 (fun _ => true) true m 25 [v] = some x → ∃ (F : Te) (u : Sl), v = slv u ∧ TeV W.heap.size W F v ∧ F.all WfN) :
    ∃ t : Tm, cs = ndC t.1 ∧ TmL W.heap.size W t ∧ WfN t.1 ∧ t.2.all WfN := by
  obtain ⟨ys, n2, hn2, _, _, hyl, hfld⟩ := DataW.trod_struct Try.underlying29 h
  have hI : Try.prog.cellsOf 3 = 1 := by kernel_rfl
  have hS : Try.prog.cellsOf 9 = 1 := by kernel_rfl
  have hT : Try.prog.cellsOf 24 = 3 := by kernel_rfl
  have hL : Try.prog.cellsOf 25 = 1 := by kernel_rfl
  have hLT : Try.prog.cellsOf 22 = 1 := by kernel_rfl
  have hP : Try.prog.cellsOf 27 = 2 := by kernel_rfl
  have hyl' : ys.length = 6 := hyl
  match cs, hlen with
  | [e0, e1, e2, e3, e4, e5, e6, e7, e8], _ =>
    have q0 : DataW.trod enc Try.prog W 0 (fun _ => true) true n2 3 (([e0, e1, e2, e3, e4, e5, e6, e7, e8].drop 0).take (Try.prog.cellsOf 3)) = ys[0]? := hfld 0 _ rfl
    have q1 : DataW.trod enc Try.prog W 0 (fun _ => true) true n2 9 (([e0, e1, e2, e3, e4, e5, e6, e7, e8].drop 1).take (Try.prog.cellsOf 9)) = ys[1]? := hfld 1 _ rfl
    have q2 : DataW.trod enc Try.prog W 0 (fun _ => true) true n2 3 (([e0, e1, e2, e3, e4, e5, e6, e7, e8].drop 2).take (Try.prog.cellsOf 3)) = ys[2]? := hfld 2 _ rfl
    have q3 : DataW.trod enc Try.prog W 0 (fun _ => true) true n2 24 (([e0, e1, e2, e3, e4, e5, e6, e7, e8].drop 3).take (Try.prog.cellsOf 24)) = ys[3]? := hfld 3 _ rfl
    have q4 : DataW.trod enc Try.prog W 0 (fun _ => true) true n2 25 (([e0, e1, e2, e3, e4, e5, e6, e7, e8].drop 6).take (Try.prog.cellsOf 25)) = ys[4]? := hfld 4 _ rfl
    have q5 : DataW.trod enc Try.prog W 0 (fun _ => true) true n2 27 (([e0, e1, e2, e3, e4, e5, e6, e7, e8].drop 7).take (Try.prog.cellsOf 27)) = ys[5]? := hfld 5 _ rfl
    rw [hI, List.getElem?_eq_getElem (by omega)] at q0 q2
    rw [hS, List.getElem?_eq_getElem (by omega)] at q1
    rw [hT, List.getElem?_eq_getElem (by omega)] at q3
    rw [hL, List.getElem?_eq_getElem (by omega)] at q4
    rw [hP, List.getElem?_eq_getElem (by omega)] at q5
    obtain ⟨k0, hk0, _, hw0⟩ := DataW.trod_int Try.underlying3 q0
    obtain ⟨s0, hs0, _, _⟩ := DataW.trod_string Try.underlying9 q1
    obtain ⟨k2, hk2, _, hw2⟩ := DataW.trod_int Try.underlying3 q2
    obtain ⟨zs, n3, _, _, _, hzl, hzf⟩ := DataW.trod_struct Try.underlying24 q3
    have hzl' : zs.length = 3 := hzl
    have r0 : DataW.trod enc Try.prog W 0 (fun _ => true) true n3 3 (([e3, e4, e5].drop 0).take (Try.prog.cellsOf 3)) = zs[0]? := hzf 0 _ rfl
    have r1 : DataW.trod enc Try.prog W 0 (fun _ => true) true n3 3 (([e3, e4, e5].drop 1).take (Try.prog.cellsOf 3)) = zs[1]? := hzf 1 _ rfl
    have r2 : DataW.trod enc Try.prog W 0 (fun _ => true) true n3 22 (([e3, e4, e5].drop 2).take (Try.prog.cellsOf 22)) = zs[2]? := hzf 2 _ rfl
    rw [hI, List.getElem?_eq_getElem (by omega)] at r0 r1
    rw [hLT, List.getElem?_eq_getElem (by omega)] at r2
    obtain ⟨k3, hk3, _, _⟩ := DataW.trod_int Try.underlying3 r0
    obtain ⟨k4, hk4, _, hw4⟩ := DataW.trod_int Try.underlying3 r1
    obtain ⟨ty, tu, htu, hty, htw⟩ := types_read n3 e5 _ r2
    obtain ⟨F, u, hu, hF, hFw⟩ := ih n2 (by omega) e6 _ q4
    obtain ⟨ss, n4, _, _, _, hsl, hsf⟩ := DataW.trod_struct Try.underlying27 q5
    have hsl' : ss.length = 2 := hsl
    have t0 : DataW.trod enc Try.prog W 0 (fun _ => true) true n4 3 (([e7, e8].drop 0).take (Try.prog.cellsOf 3)) = ss[0]? := hsf 0 _ rfl
    have t1 : DataW.trod enc Try.prog W 0 (fun _ => true) true n4 3 (([e7, e8].drop 1).take (Try.prog.cellsOf 3)) = ss[1]? := hsf 1 _ rfl
    rw [hI, List.getElem?_eq_getElem (by omega)] at t0 t1
    obtain ⟨k7, hk7, _, hw7⟩ := DataW.trod_int Try.underlying3 t0
    obtain ⟨k8, hk8, _, hw8⟩ := DataW.trod_int Try.underlying3 t1
    simp at hk0 hs0 hk2 hk3 hk4 hk7 hk8
    subst hk0; subst hs0; subst hk2; subst hk3; subst hk4; subst hk7; subst hk8; subst htu; subst hu
    exact ⟨(⟨k0, s0, k2, k3, k4, tu, ty, u, k7, k8⟩, F), rfl, ⟨hty, hF⟩, ⟨hw0, hw2, hw4, htw, hw7, hw8⟩, hFw⟩
set_option maxRecDepth 100000 in
theorem terms_read (fuel : Nat) : ∀ (v : Value) (x : DataW H × List MemPlace), DataW.trod enc Try.prog W 0 (fun _ => true) true fuel 25 [v] = some x → ∃ (F : Te) (u : Sl), v = slv u ∧ TeV W.heap.size W F v ∧ F.all WfN := by
  induction fuel using Nat.strongRecOn with
  | ind fuel ih =>
    intro v x h
    rcases DataW.trod_slice Try.underlying25 h with ⟨hcs, _⟩ | ⟨a, len, cap, elems, rest, n, hfu, hcs, _, _, hl, hm, hlen, hel, _, _⟩
    · simp at hcs
      subst hcs
      exact ⟨.nil, (none, 0, 0), rfl, teV_nil.2 ⟨none, 0, rfl⟩, trivial⟩
    · simp at hcs
      subst hcs
      have hC : Try.prog.cellsOf 29 = 9 := by kernel_rfl
      rw [hC] at hel
      have key : ∀ i, i < len → ∃ t : Tm, (∀ j u, (ndC t.1)[j]? = some u → W.cell? ((a.add (i * 9)).add j) = some u) ∧ TmL W.heap.size W t ∧ WfN t.1 ∧ t.2.all WfN := by
        intro i hil
        have he := hel i hil
        rw [List.getElem?_eq_getElem (by omega)] at he
        obtain ⟨cs', hc, ht'⟩ := Option.bind_eq_some_iff.1 he
        obtain ⟨_, hcl, hat⟩ := World.cells?_some hc
        obtain ⟨t, htc, hL, hw1, hw2⟩ := term_cells n cs' (by simpa using hcl) _ ht' (fun m hm => ih m (by omega))
        refine ⟨t, fun j u hu => ?_, hL, hw1, hw2⟩
        have hj : j < 9 := by have := (List.getElem?_eq_some_iff.1 hu).1; rwa [show (ndC t.1).length = 9 from rfl] at this
        rw [hat j hj, htc]
        exact hu
      by_cases h0 : len = 0
      · subst h0
        exact ⟨.nil, (some a, 0, cap), rfl, teV_nil.2 ⟨_, _, rfl⟩, trivial⟩
      · obtain ⟨b, off, spot⟩ := a
        obtain ⟨t0, hc0, _⟩ := key 0 (by omega)
        have hc00 := hc0 0 _ rfl
        have hspot : spot = none := by simpa [Addr.add] using World.cell?_spot hc00
        subst hspot
        have hb : b < W.heap.size := by simpa [Addr.add] using World.block_lt_of_cell? _ _ hc00
        obtain ⟨ts, htl, hP⟩ := listOf _ len key
        have hTC : TeC W.heap.size W (teOf ts) b off := teOf_cells ts off fun i hi => by
          obtain ⟨h1, h2, _⟩ := hP i hi
          refine ⟨NdAt.of_cells fun j u hu => ?_, h2⟩
          have := h1 j u hu
          simpa only [Addr.add_lit] using this
        have hWF : (teOf ts).all WfN := teOf_all ts fun i hi => (hP i hi).2.2
        cases ts with
        | nil => simp at htl; omega
        | cons t r =>
          refine ⟨teOf (t :: r), (some ⟨b, off, none⟩, len, cap), rfl, teV_cons.2 ⟨b, off, cap, ?_, ?_, hm, hb, hTC⟩, hWF⟩
          · rw [teOf_len, ← htl]; rfl
          · rw [teOf_len]; simp at htl; omega
/-- What is known of an argument that is a slice of terms. -/
def ArgE (w : World) (v : Value) : Prop := ∃ F : Te, TeV w.heap.size w F v ∧ F.all WfN
theorem ArgE_open {r : Reach} {b0 : Nat} {v : Value} {d : DataW H} {p : List MemPlace} (hval : Value.okWide Try.prog W r b0 25 v)
    (h : DataW.Trod enc Try.prog W 0 (fun _ => true) true 25 v d p) : ArgE W v := by
  obtain ⟨a0, len, cap, rfl⟩ := okWide_slice Try.underlying25 hval
  obtain ⟨fuel, hf⟩ := h
  obtain ⟨F, _, _, hF, hw⟩ := terms_read fuel _ _ hf
  exact ⟨F, hF, hw⟩
theorem ArgE1_open {r : Reach} {b0 : Nat} {v : Value} {d : DataW H} {p : List MemPlace} (hval : Value.okWide Try.prog W r b0 29 v)
    (h : DataW.Trod enc Try.prog W 0 (fun _ => true) true 29 v d p) : ∃ t : Tm, v = teVal t.1 ∧ TmL W.heap.size W t ∧ WfN t.1 ∧ t.2.all WfN := by
  obtain ⟨cs, rfl, hsz⟩ := okWide_struct Try.underlying29 hval
  have hC : Try.prog.cellsOf 29 = 9 := by kernel_rfl
  rw [hC] at hsz
  obtain ⟨fuel, hf⟩ := h
  obtain ⟨t, ht, hL, h1, h2⟩ := term_cells fuel cs.toList (by simpa using hsz) _ hf (fun m _ => terms_read m)
  refine ⟨t, ?_, hL, h1, h2⟩
  show Value.agg cs = Value.agg (ndC t.1).toArray
  rw [← ht]
end
end Go.Proofs.Ytglmhdlkhnlkiaa
/- The answer's Same. -/
namespace Go.Proofs.Ytglmhdlkhnlkiaa
open Go.RowKit

namespace Fo
/-- Are two lists of types the same? -/
def same : Fo → Fo → Bool
  | nil, nil => true
  | cons k n _ ps r, cons k' n' _ ps' r' => k == k' && n == n' && ps.same ps' && r.same r'
  | _, _ => false
/-- Are two types the same? -/
def same1 (x y : Int × Int × Sl × Fo) : Bool := x.1 == y.1 && x.2.1 == y.2.1 && x.2.2.2.same y.2.2.2
theorem same_len (f g : Fo) (h : f.same g = true) : f.len = g.len := by
  induction f generalizing g with
  | nil => cases g <;> simp [same] at h ⊢
  | cons k n u ps r _ ih =>
    cases g with
    | nil => simp [same] at h
    | cons k' n' u' ps' r' =>
      simp only [same, Bool.and_eq_true] at h
      simp [len, ih r' h.2]
theorem same_split (f g : Fo) (j : Nat) (h : f.len = g.len) (hj : j < f.len) : f.same g = ((f.take j).same (g.take j) && (same1 (f.at_ j) (g.at_ j) && (f.drop (j + 1)).same (g.drop (j + 1)))) := by
  induction f generalizing g j with
  | nil => simp [len] at hj
  | cons k n u ps r _ ih =>
    cases g with
    | nil => simp [len] at h
    | cons k' n' u' ps' r' =>
      cases j with
      | zero => simp [same, take, at_, drop, same1]
      | succ j =>
        have := ih r' j (by simpa [len] using h) (by simpa [len] using hj)
        simp only [same, take, at_, drop]
        rw [this]
        simp [Bool.and_assoc]
theorem same_take (f g : Fo) (j : Nat) (h : f.len = g.len) (hj : j < f.len) : (f.take (j + 1)).same (g.take (j + 1)) = ((f.take j).same (g.take j) && same1 (f.at_ j) (g.at_ j)) := by
  induction f generalizing g j with
  | nil => simp [len] at hj
  | cons k n u ps r _ ih =>
    cases g with
    | nil => simp [len] at h
    | cons k' n' u' ps' r' =>
      cases j with
      | zero => simp [same, take, at_, same1]
      | succ j =>
        have := ih r' j (by simpa [len] using h) (by simpa [len] using hj)
        simp only [same, take, at_] at this ⊢
        rw [this]
        simp [Bool.and_assoc]
end Fo
set_option maxHeartbeats 2000000 in
set_option maxRecDepth 100000 in
theorem rsame_any (m : Nat) : ∀ (f g : Fo) (k n k' n' : Int) (v v' : Value) (w : World), f.size < m → f.size ≤ 1000000 → g.size ≤ 1000000 → TyV w.heap.size w f v → TyV w.heap.size w g v' →
    Calls Try.prog 49 #[tyVal k n v, tyVal k' n' v'] w fun e w' => e = .returned (.bool (k == k' && n == n' && f.same g)) ∧ Below w.heap.size w w' := by
  induction m with
  | zero => intro f g k n k' n' v v' w h; omega
  | succ m ih =>
    intro f g k n k' n' v v' w hm hs hs' h h'
    obtain ⟨A, c, rfl⟩ := h.slice
    obtain ⟨A', c', rfl⟩ := h'.slice
    have H := Lib.hid h
    have H' := Lib.hid h'
    have IH := Lib.hid ih
    have hll := f.len_le_size
    have hll' := g.len_le_size
    clear h ih h'
    unfold tyVal
    go_enter Try.func49, Try.ntmps49
    have HB0 := Lib.hid (show ∀ (cs cs' : Array Value) (t t' : TypeId), Below w.heap.size w ((w.alloc (Obj.cells cs t)).alloc (Obj.cells cs' t')) from fun cs cs' t t' => ((Below.refl _ w).alloc (Nat.le_refl _) _).alloc (by simp) _)
    obtain ⟨q, hq⟩ : ∃ q, f.len = q := ⟨_, rfl⟩
    obtain ⟨q', hq'⟩ : ∃ q', g.len = q' := ⟨_, rfl⟩
    rw [hq] at hll ⊢
    rw [hq'] at hll' ⊢
    have HQ := Lib.hid hq
    have HQ' := Lib.hid hq'
    clear hq hq'
    by_cases h1 : k = k'
    case neg =>
      have f1 : (k != k') = true := bne_iff_ne.2 h1
      go_wp2_with fail
      go_ret
      exact ⟨ret_bool (by rw [beq_eq_false_iff_ne.2 h1]; rfl), HB0.out _ _ _ _⟩
    have f1 : (k != k') = false := by rw [h1]; simp
    by_cases h2 : n = n'
    case neg =>
      have f2 : (n != n') = true := bne_iff_ne.2 h2
      go_wp2_with fail
      go_ret
      exact ⟨ret_bool (by rw [beq_eq_false_iff_ne.2 h2]; simp), HB0.out _ _ _ _⟩
    have f2 : (n != n') = false := by rw [h2]; simp
    have hkn : (k == k' && n == n') = true := by rw [h1, h2]; simp
    have HKN := Lib.hid hkn
    clear hkn
    by_cases h3 : q = q'
    case neg =>
      have f3 : ((q : Int) != q') = true := bne_iff_ne.2 (by omega)
      have hsf : f.same g = false := by
        cases hb : f.same g with
        | false => rfl
        | true => exact absurd (f.same_len g hb) (by rw [HQ.out, HQ'.out]; exact h3)
      have HSF := Lib.hid hsf
      clear h1 h2 hsf
      go_wp2_with fail
      go_ret
      exact ⟨ret_bool (by rw [HKN.out, HSF.out]; rfl), HB0.out _ _ _ _⟩
    subst h3
    clear h1 h2
    have HFG := Lib.hid (show f.len = g.len by rw [HQ.out, HQ'.out])
    go_wp2_with fail
    go_loopw [5] (fun t5 wr => ∃ j : Nat, j ≤ q ∧ t5 = .int .i64 j ∧ (f.take j).same (g.take j) = true ∧ wr.cell? ⟨w.heap.size, 2, none⟩ = some (.slice A q c) ∧ wr.cell? ⟨w.heap.size + 1, 2, none⟩ = some (.slice A' q c') ∧ Below w.heap.size w wr ∧ w.heap.size + 2 ≤ wr.heap.size) (fun t _ => q - (intOf t).toNat)
    case atStart => exact ⟨0, Nat.zero_le _, rfl, by simp [Fo.take_zero, Fo.same], by go_simp, by go_simp, HB0.out _ _ _ _, by simp⟩
    case round =>
      obtain ⟨j, hj, rfl, hja, e2, e3, hb, hz⟩ := hrel
      have HB := Lib.hid hb
      have HJA := Lib.hid hja
      clear hja hb
      by_cases hjl : j < q
      · have hjf : j < f.len := by rw [HQ.out]; exact hjl
        have hjg : j < g.len := by rw [HQ'.out]; exact hjl
        obtain ⟨b, off, cap, hv, _, _, hlt, hC⟩ := H.out.form (by omega)
        injection hv with hA _ hcc
        subst hA; subst hcc
        obtain ⟨b', off', cap', hv', _, _, hlt', hC'⟩ := H'.out.form (by omega)
        injection hv' with hA' _ hcc'
        subst hA'; subst hcc'
        obtain ⟨d0, d1, d2, hch⟩ := tyC_at hC j hjf
        obtain ⟨d0', d1', d2', hch2⟩ := tyC_at hC' j hjg
        have c0 := (HB.out.cell (p := ⟨b, off + j * 3, none⟩) hlt).trans d0
        have c1 := (HB.out.cell (p := ⟨b, off + j * 3 + 1, none⟩) hlt).trans d1
        have c2 := (HB.out.cell (p := ⟨b, off + j * 3 + 2, none⟩) hlt).trans d2
        have c0' := (HB.out.cell (p := ⟨b', off' + j * 3, none⟩) hlt').trans d0'
        have c1' := (HB.out.cell (p := ⟨b', off' + j * 3 + 1, none⟩) hlt').trans d1'
        have c2' := (HB.out.cell (p := ⟨b', off' + j * 3 + 2, none⟩) hlt').trans d2'
        have hch' : TyV wr.heap.size wr (f.at_ j).2.2.2 (slv (f.at_ j).2.2.1) := hch.keep HB.out.size fun b off hb' => HB.out.cell (p := ⟨b, off, none⟩) hb'
        have hch3 : TyV wr.heap.size wr (g.at_ j).2.2.2 (slv (g.at_ j).2.2.1) := hch2.keep HB.out.size fun b off hb' => HB.out.cell (p := ⟨b, off, none⟩) hb'
        have hsz := f.at_size j hjf
        have hsz' := g.at_size j hjg
        have hsp := f.same_split g j HFG.out hjf
        have htk := f.same_take g j HFG.out hjf
        have hrec := IH.out (f.at_ j).2.2.2 (g.at_ j).2.2.2 (f.at_ j).1 (f.at_ j).2.1 (g.at_ j).1 (g.at_ j).2.1 (slv (f.at_ j).2.2.1) (slv (g.at_ j).2.2.1) wr.drew (by omega) (by omega) (by omega) (hch'.below (Below.refl _ wr).drew) (hch3.below (Below.refl _ wr).drew)
        clear d0 d1 d2 hC hch hch' hsz d0' d1' d2' hC' hch2 hch3 hsz'
        unfold tyVal at hrec
        generalize f.at_ j = p at *
        generalize g.at_ j = p' at *
        obtain ⟨pk, pn, pv, pf⟩ := p
        obtain ⟨pk', pn', pv', pf'⟩ := p'
        dsimp only [Fo.same1] at hsp htk hrec c0 c1 c2 c0' c1' c2'
        obtain ⟨x, hx⟩ : ∃ x, (pk == pk' && pn == pn' && pf.same pf') = x := ⟨_, rfl⟩
        rw [hx] at hrec hsp htk
        have HREC := Lib.hid hrec
        have HSP := Lib.hid (show f.same g = (x && (f.drop (j + 1)).same (g.drop (j + 1))) by rw [hsp, HJA.out]; rfl)
        have HTK := Lib.hid (show (f.take (j + 1)).same (g.take (j + 1)) = x by rw [htk, HJA.out]; rfl)
        clear hrec hsp htk hx hjf hjg
        go_wp2_with fail
        dsimp only [slv] at *
        go_region_with (go_at_call 49; refine HREC.out.mono ?_; rintro e w2 ⟨rfl, hb3⟩)
        all_goals
          have e2' := (hb3.cell (p := ⟨w.heap.size, 2, none⟩) (by show w.heap.size < wr.heap.size; omega)).trans e2
          have e3' := (hb3.cell (p := ⟨w.heap.size + 1, 2, none⟩) (by show w.heap.size + 1 < wr.heap.size; omega)).trans e3
          have HB3 := Lib.hid (show Below wr.heap.size wr w2 from (Below.refl _ wr).drew.trans hb3)
          clear hb3
          cases x
          · go_wp2_with fail
            go_ret
            exact ⟨ret_bool (by rw [HKN.out, HSP.out]; rfl), HB.out.trans (HB3.out.mono (by omega))⟩
          · go_wp2_with fail
            go_roundw
            case rel => exact ⟨j + 1, by omega, by go_num, HTK.out, e2', e3', HB.out.trans (HB3.out.mono (by omega)), Nat.le_trans hz HB3.out.size⟩
            case measure => simp [intOf]; omega
      · obtain rfl : j = q := by omega
        have HT : Hid (f.take j = f) := Lib.hid (by rw [← HQ.out]; exact f.take_len)
        have HT' : Hid (g.take j = g) := Lib.hid (by rw [← HQ'.out]; exact g.take_len)
        go_wp2_with fail
        go_ret
        exact ⟨ret_bool (by rw [HKN.out, ← HT.out, ← HT'.out, HJA.out]; rfl), HB.out⟩
end Go.Proofs.Ytglmhdlkhnlkiaa
