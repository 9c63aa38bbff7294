/- Texts of one proof, one behind the other. -/
import Derived.Test.YtfoangiphbmipaaMgTermOrder5
import Derived.Test.YtfoangiphbmipaaMgTermOrder4
import Derived.Deep.RegionWith
/- types.Depth: level by level: the plain facts. -/
namespace Go.Proofs.Ytfoangiphbmipaa
open Go.RowKit
namespace Fo
/-- The parts of a list's types, one behind the other. -/
def kids : Fo → Fo
  | nil => nil
  | cons _ _ _ ps r => ps.app r.kids
theorem kids_app (f g : Fo) : (f.app g).kids = f.kids.app g.kids := by
  induction f with
  | nil => rfl
  | cons k n u ps r _ ih => simp [app, kids, ih, app_assoc]
theorem size_kids (f : Fo) : f.size = f.len + f.kids.size := by
  induction f with
  | nil => rfl
  | cons k n u ps r _ ih => simp only [size, len, kids, size_app]; omega
theorem depth_kids (f : Fo) : (f.len = 0 → f.depth = 0) ∧ (0 < f.len → f.depth = 1 + f.kids.depth) := by
  induction f with
  | nil => exact ⟨fun _ => rfl, fun h => absurd h (Nat.lt_irrefl 0)⟩
  | cons k n u ps r _ ih =>
    refine ⟨fun h => by simp [len] at h, fun _ => ?_⟩
    simp only [depth, kids, depth_app]
    rcases Nat.eq_zero_or_pos r.len with h0 | h0
    · have h1 := ih.1 h0
      have h2 : r.kids.depth = 0 := by
        cases r with
        | nil => rfl
        | cons => simp [len] at h0
      omega
    · have h1 := ih.2 h0
      omega
theorem kids_take (f : Fo) (j : Nat) (hj : j < f.len) : (f.take (j + 1)).kids = (f.take j).kids.app (f.at_ j).2.2.2 := by
  rw [take_step f j hj, kids_app]
  simp [kids, app_nil]
end Fo
theorem TyL.kids {B : Nat} {w : World} {f : Fo} (h : TyL B w f) : TyL B w f.kids := by
  induction f with
  | nil => trivial
  | cons _ _ _ ps r _ ih => exact (h.1.list).app (ih h.2)
/-- A slice of types reads as its cells. -/
theorem TyV.rd3 {B : Nat} {w : World} {f : Fo} {v : Value} (hB : B ≤ w.heap.size) (h : TyV B w f v) : Rd w 3 v f.len (f.top.flatMap trC) := by
  refine ⟨by rw [trC_len, Fo.top_len], ?_⟩
  rcases Nat.eq_zero_or_pos f.len with h0 | h0
  · obtain ⟨A, c, hv⟩ := h.slice
    exact .inl ⟨h0, A, c, by rw [hv, h0]⟩
  · obtain ⟨b, off, cap, hv, h1, h2, h3, hC⟩ := h.form h0
    refine .inr ⟨b, off, cap, hv, h1, h2, by omega, ?_⟩
    clear hv h1 h2 h0 h
    induction f generalizing off with
    | nil => intro j u hu; simp [Fo.top] at hu
    | cons k n u ps r _ ih =>
      obtain ⟨c0, c1, c2, _, hr⟩ := tyC_cons.1 hC
      intro j x hx
      simp only [Fo.top, List.flatMap_cons, trC, List.cons_append, List.nil_append] at hx
      match j, hx with
      | 0, hx => simp at hx; subst hx; exact c0
      | 1, hx => simp at hx; subst hx; exact c1
      | 2, hx => simp at hx; subst hx; exact c2
      | j + 3, hx =>
        simp only [List.getElem?_cons_succ] at hx
        have := ih (off + 3) hr j x hx
        rwa [show off + (j + 3) = off + 3 + j by omega]
end Go.Proofs.Ytfoangiphbmipaa
/- types.Depth. -/
namespace Go.Proofs.Ytfoangiphbmipaa
open Go.RowKit
attribute [local go_sem ↓] builtin_app
theorem trC_one (L : List Tr) : ∀ u ∈ L.flatMap trC, u.oneCell' = true := by
  intro u hu
  obtain ⟨x, _, hx⟩ := List.mem_flatMap.1 hu
  simp only [trC, List.mem_cons, List.not_mem_nil, or_false] at hx
  rcases hx with rfl | rfl | rfl <;> rfl
theorem top_at (F : Fo) (j : Nat) (hj : j < F.len) : (F.top.flatMap trC)[j * 3]? = some (.int .i64 (F.at_ j).1) ∧ (F.top.flatMap trC)[j * 3 + 1]? = some (.int .i64 (F.at_ j).2.1) ∧ (F.top.flatMap trC)[j * 3 + 2]? = some (slv (F.at_ j).2.2.1) := by
  induction F generalizing j with
  | nil => simp [Fo.len] at hj
  | cons k n u ps r _ ih =>
    cases j with
    | zero => simp [Fo.top, trC, Fo.at_]
    | succ j =>
      have := ih j (by simp [Fo.len] at hj; omega)
      simp only [Fo.top, List.flatMap_cons, trC, Fo.at_, List.cons_append, List.nil_append]
      rw [show (j + 1) * 3 = j * 3 + 1 + 1 + 1 by omega]
      simp only [List.getElem?_cons_succ]
      exact this
theorem TyL.at {B : Nat} {w : World} {F : Fo} (h : TyL B w F) (j : Nat) (hj : j < F.len) : TyV B w (F.at_ j).2.2.2 (slv (F.at_ j).2.2.1) := by
  induction F generalizing j with
  | nil => simp [Fo.len] at hj
  | cons k n u ps r _ ih =>
    cases j with
    | zero => exact h.1
    | succ j => exact ih h.2 j (by simp [Fo.len] at hj; omega)
/-- Between two levels. -/
def DInv (w : World) (D N : Nat) (t3 t4 : Value) (wr : World) (s : Nat) : Prop :=
  ∃ (F : Fo) (d : Nat), F.size = s ∧ t3 = .int .i64 d ∧ d + F.depth = D ∧ F.size ≤ N ∧ Rd wr 3 t4 F.len (F.top.flatMap trC) ∧ TyL w.heap.size wr F ∧ Below w.heap.size w wr
end Go.Proofs.Ytfoangiphbmipaa
/- types.change. -/
namespace Go.Proofs.Ytfoangiphbmipaa
open Go.RowKit Go.Shelf
attribute [local go_sem ↓] builtin_app
theorem ptrInfo : (Try.prog.info? 64).map (fun i => (i.zero, i.size, i.bytes)) = some (some (.pointer none), 1, 8) := by kernel_rfl
set_option maxHeartbeats 1000000 in
set_option maxRecDepth 100000 in
theorem change_any (num : Int → Int) (gf : Nat) (lb : Array Value) (eg : ∀ args w, (callFunc gf args).run Try.prog w = .ok (.enter gf args) w) (w : World) (k n : Int) (u : Sl) (ps : Fo) (hps : TyV w.heap.size w ps (slv u)) (hs : ps.size < 1000000)
    (hnum : ∀ (m : Int) (W : World), Below w.heap.size w W → Calls Try.prog gf (#[.int .i64 m] ++ lb) W fun e W' => e = .returned (.int .i64 (num m)) ∧ W' = W) :
    Calls Try.prog 34 #[tyVal k n (slv u), .func (.func gf) #[] lb] w fun e w' => ∃ u' : Sl, e = .returned (tyVal k (nm num k n) (slv u')) ∧ Below w.heap.size w w' ∧ FreshT 24 w.heap.size w' num ps u' := by
  obtain ⟨u1, u2, u3⟩ := u
  dsimp only [tyVal, slv] at hps ⊢
  obtain ⟨w3, hw3⟩ : ∃ w3, ((w.alloc (.cells #[.int .i64 k, .int .i64 n, .slice u1 u2 u3] 24)).alloc (.cells #[.int .i64 0, .int .i64 0, .slice none 0 0] 24)).alloc (.cells #[.pointer (some ⟨w.heap.size, 0, none⟩)] 64) = w3 := ⟨_, rfl⟩
  have hinv : ChInv num 24 64 w (w.heap.size + 1) w.heap.size k n ps (.slice (some ⟨w.heap.size + 1 + 1, 0, none⟩) 1 1) w3 (1 + ps.size) := by
    have hb : Below w.heap.size w w3 := by rw [← hw3]; exact (((Below.refl _ w).alloc (Nat.le_refl _) _).alloc (by simp) _).alloc (by simp only [World.size_alloc]; omega) _
    have h0 : w3.heap[w.heap.size]? = some (.cells #[.int .i64 k, .int .i64 n, .slice u1 u2 u3] 24) := by
      rw [← hw3]
      exact (Below.heap_alloc _ _ _ (by simp only [World.size_alloc]; omega)).trans ((Below.heap_alloc _ _ _ (by simp)).trans (heap_alloc_new w _))
    have h1 : w3.heap[w.heap.size + 1]? = some (.cells #[.int .i64 0, .int .i64 0, .slice none 0 0] 24) := by
      rw [← hw3]
      refine (Below.heap_alloc _ _ _ (by simp only [World.size_alloc]; omega)).trans ?_
      have := heap_alloc_new (w.alloc (.cells #[.int .i64 k, .int .i64 n, .slice u1 u2 u3] 24)) (.cells #[.int .i64 0, .int .i64 0, .slice none 0 0] 24)
      rwa [World.size_alloc] at this
    have c0 := cell_of_row w3 w.heap.size 0 _ _ (0, 0) h0
    have c1 := cell_of_row w3 w.heap.size 1 _ _ (0, 0) h0
    have c2 := cell_of_row w3 w.heap.size 2 _ _ (0, 0) h0
    refine ⟨[⟨w.heap.size, 0, k, n, (u1, u2, u3), ps⟩], by simp [left_], by omega, ?_, ?_, List.pairwise_singleton _ _, ?_, hb, h1, by omega, ⟨by omega, _, h0⟩⟩
    · have := own_full ((w.alloc (.cells #[.int .i64 k, .int .i64 n, .slice u1 u2 u3] 24)).alloc (.cells #[.int .i64 0, .int .i64 0, .slice none 0 0] 24)) w.heap.size (by simp only [World.size_alloc]; omega) 64 1 1 [.pointer (some ⟨w.heap.size, 0, none⟩)] rfl (by unfold maxLen; omega)
      simp only [World.size_alloc] at this
      rw [← hw3]
      simpa [ptrs] using this
    · intro h hh
      obtain rfl : h = ⟨w.heap.size, 0, k, n, (u1, u2, u3), ps⟩ := by simpa using hh
      exact ⟨Nat.le_refl _, ⟨by simp only; omega, _, h0⟩, c0, c1, c2, hps.below hb⟩
    · intro W hsz hd _
      exact hd _ (List.mem_singleton.2 rfl)
  have HI := Lib.hid hinv
  have HN := Lib.hid hnum
  have HW3 := Lib.hid hw3
  clear hps hinv hnum hw3
  go_enter Try.func34, Try.ntmps34
  go_wp2_with fail
  go_loopw [5] (fun t5 wr => ∃ s, ChInv num 24 64 w (w.heap.size + 1) w.heap.size k n ps t5 wr s) (fun t5 wr => least (ChInv num 24 64 w (w.heap.size + 1) w.heap.size k n ps t5 wr))
  case atStart => exact ⟨_, by rw [HW3.out]; exact HI.out⟩
  case round =>
    obtain ⟨s, hs⟩ := hrel
    obtain ⟨⟨Hs, hsum, hsm, hown, hat, hap, hwd, hb, hrt, hrt2, hrb⟩, _⟩ := least_of hs
    have HM := Lib.hid hsum
    clear hs hsum
    rcases List.eq_nil_or_concat Hs with rfl | ⟨Hq, h, rfl⟩
    rotate_left
    · rw [List.concat_eq_append] at *
      rw [List.length_append, List.length_singleton] at hown
      obtain ⟨g, cp, rfl, hg1, hg2⟩ := own_shape hown (by omega)
      obtain ⟨hbB, hT, d0, d1, d2, hv⟩ := hat h (List.mem_append_right _ (List.mem_singleton.2 rfl))
      obtain ⟨q, hq⟩ : ∃ q, Hq.length = q := ⟨_, rfl⟩
      rw [hq] at hown ⊢
      have hql : q ≤ 1000000 := by have := left_len (Hq ++ [h]); rw [List.length_append] at this; have := HM.out; omega
      have e0 : wr.cell? ⟨g, q, none⟩ = some (.pointer (some ⟨h.b, h.off, none⟩)) := by
        rw [hown.cellAt _ (by omega), ptrs_app, List.getElem?_append_right (by rw [ptrs_len]; omega), ptrs_len, hq]
        simp [ptrs]
      have hcp : q + 1 ≤ cp := by
        obtain ⟨_, _, hv, h1, _⟩ := own_form hown
        injection hv with _ _ h3
        omega
      have hz : decide ((q : Int) ≤ (cp : Int)) = true := by simp; omega
      have hz0 : (0 : Int) ≤ (q : Int) := by omega
      have own1 : wr.ownsRow w.heap.size 64 1 (.slice (some ⟨g, 0, none⟩) q cp) q (ptrs Hq) := by
        rw [ptrs_app] at hown
        exact own_cut hown q (by omega) (by rw [ptrs_len, hq, Nat.mul_one])
      have hfz : ∀ off, wr.frozen? ⟨h.b, off, none⟩ = false := fun off => by
        obtain ⟨_, cs, hcs⟩ := hT
        exact frozen_cells hcs off
      have hfz1 := hfz (h.off + 1)
      have hfz2 := hfz (h.off + 2)
      have hgh : g ≠ h.b := by
        rintro rfl
        obtain ⟨_, cs, hcs⟩ := hT
        exact row_not own1 (by decide) _ rfl cs hcs
      have hnc := HN.out h.n wr hb
      have hwr : w.heap.size + 1 < wr.heap.size := (Array.getElem?_eq_some_iff.1 hrt).1
      have hlt := hT.lt
      have HD := Lib.hid (And.intro d0 (And.intro d1 d2))
      have HV := Lib.hid hv
      have HT := Lib.hid hT
      have HAP := Lib.hid hap
      have HWD := Lib.hid hwd
      have HRB : Hid (isT 24 (w.heap.size + 1) wr w.heap.size) := Lib.hid hrb
      have HAT := Lib.hid hat
      have HO := Lib.hid own1
      have HB := Lib.hid hb
      have HQ := Lib.hid hq
      have HRT := Lib.hid hrt
      have HRB := Lib.hid hrb
      have HSM := Lib.hid (show left_ (Hq ++ [h]) ≤ 1000000 by have := HM.out; omega)
      obtain ⟨m, hm⟩ : ∃ m, h.ps.len = m := ⟨_, rfl⟩
      have hml : m ≤ 1000000 := by
        have := h.ps.len_le_size
        have h2 := HSM.out
        rw [left_app] at h2
        simp only [left_, List.map_cons, List.map_nil, List.sum_cons, List.sum_nil] at h2
        omega
      have HMM := Lib.hid hm
      -- what the two ways through the question 'is it a variable?' leave
      have mid : ∀ wA, Tch 24 (w.heap.size + 1) w.heap.size h wr wA → wr.heap.size = wA.heap.size → wA.cell? ⟨h.b, h.off, none⟩ = some (.int .i64 h.k) → wA.cell? ⟨h.b, h.off + 1, none⟩ = some (.int .i64 (nm num h.k h.n)) → wA.cell? ⟨h.b, h.off + 2, none⟩ = some (slv h.u) → wA.ownsRow w.heap.size 64 1 (.slice (some ⟨g, 0, none⟩) q cp) q (ptrs Hq) →
          ∃ (A1 : Option Addr) (c1 c : Nat) (w1 w2 : World), (app_ #[22, 22] 22 #[.slice none 0 0, slv h.u]).run Try.prog wA = .ok (.slice A1 m c1) w1 ∧ w1.setCell ⟨h.b, h.off + 2, none⟩ (.slice A1 m c1) = w2 ∧ w1.cell? ⟨h.b, h.off + 2, none⟩ = some (slv h.u) ∧ w1.frozen? ⟨h.b, h.off + 2, none⟩ = false ∧
            w2.cell? ⟨h.b, h.off + 2, none⟩ = some (.slice A1 m c1) ∧ (0 < m → A1 = some ⟨c, 0, none⟩) ∧
            Hid (Tch 24 (w.heap.size + 1) w.heap.size h wr w2 ∧ w2.cell? ⟨h.b, h.off, none⟩ = some (.int .i64 h.k) ∧ w2.cell? ⟨h.b, h.off + 1, none⟩ = some (.int .i64 (nm num h.k h.n)) ∧ wr.heap.size ≤ c ∧
              ((m = 0 ∧ ∃ A cp, (A1, m, c1) = (A, 0, cp)) ∨ (0 < m ∧ (∃ cs, w2.heap[c]? = some (Obj.cells cs 24)) ∧ (∀ j u, (h.ps.top.flatMap trC)[j]? = some u → w2.cell? ⟨c, j, none⟩ = some u) ∧ ∃ cp, (A1, m, c1) = (some ⟨c, 0, none⟩, m, cp) ∧ m ≤ cp ∧ cp ≤ maxLen)) ∧
              w2.ownsRow w.heap.size 64 1 (.slice (some ⟨g, 0, none⟩) q cp) q (ptrs Hq)) := by
        intro wA tA hsz a0 a1 a2 ownA
        have hTA := tA.kept _ HT.out
        have hvA := HV.out.below tA.below
        obtain ⟨i0, hi0, hz0, hz1, hz2⟩ := info_parts tyInfo
        have rd := TyV.rd3 (Nat.le_trans HB.out.size tA.below.size) hvA
        rw [hm] at rd
        have own0 : wA.ownsRow wA.heap.size 24 3 (.slice none 0 0) 0 [] := ⟨rfl, .inl ⟨rfl, rfl⟩⟩
        obtain ⟨v1, w1, hrun, hown1, hg1, hat1⟩ := run_append_rd (P := Try.prog) wA wA.heap.size 22 22 24 i0 _ 3 40 Try.underlying22 hi0 hz0 hz1 hz2 rfl (by omega) (.slice none 0 0) 0 [] own0 _ m _ rd (trC_one _) (by unfold maxLen; omega) (by omega) (Nat.le_refl _)
        simp only [Nat.zero_add, List.nil_append] at hown1
        obtain ⟨A1, c1, rfl, hmc, hcm⟩ := own_form hown1
        have kT : KeepT 24 wA w1 := KeepT.grown hg1 (fun r e => by cases e)
        have bT : Below w.heap.size wA w1 := (Below.refl _ _).grown hg1 (Nat.le_trans HB.out.size tA.below.size) (fun r e => by cases e)
        have t1 : Tch 24 (w.heap.size + 1) w.heap.size h wr w1 := tA.trans (Tch.keep kT bT)
        have hT1 := t1.kept _ HT.out
        have x0 := (kT.cell hTA h.off).trans a0
        have x1 := (kT.cell hTA (h.off + 1)).trans a1
        have x2 := (kT.cell hTA (h.off + 2)).trans a2
        have t2 : Tch 24 (w.heap.size + 1) w.heap.size h wr (w1.setCell ⟨h.b, h.off + 2, none⟩ (.slice A1 m c1)) := t1.trans (Tch.set 2 (by omega) hT1 hbB _)
        have y0 : (w1.setCell ⟨h.b, h.off + 2, none⟩ (.slice A1 m c1)).cell? ⟨h.b, h.off, none⟩ = some (.int .i64 h.k) := (World.cell?_setCell_other _ _ _ _ (by intro e; injection e with _ e; omega)).trans x0
        have y1 : (w1.setCell ⟨h.b, h.off + 2, none⟩ (.slice A1 m c1)).cell? ⟨h.b, h.off + 1, none⟩ = some (.int .i64 (nm num h.k h.n)) := (World.cell?_setCell_other _ _ _ _ (by intro e; injection e with _ e; omega)).trans x1
        have hfzz : w1.frozen? ⟨h.b, h.off + 2, none⟩ = false := by obtain ⟨_, cs, hcs⟩ := hT1; exact frozen_cells hcs _
        have ownT : w1.ownsRow w.heap.size 64 1 (.slice (some ⟨g, 0, none⟩) q cp) q (ptrs Hq) := ownA.kept hg1 (.inr (by simp [Value.ownBlock]))
        have ownW : (w1.setCell ⟨h.b, h.off + 2, none⟩ (.slice A1 m c1)).ownsRow w.heap.size 64 1 (.slice (some ⟨g, 0, none⟩) q cp) q (ptrs Hq) := own_touch ownT hT1.2 (by decide) _ _
        rcases Nat.eq_zero_or_pos m with h0 | h0
        · exact ⟨A1, c1, wr.heap.size, w1, _, hrun, rfl, x2, hfzz, World.cell?_setCell_same _ _ _ x2, fun h => by omega, Lib.hid ⟨t2, y0, y1, Nat.le_refl _, .inl ⟨h0, A1, c1, by rw [h0]⟩, ownW⟩⟩
        · obtain ⟨c, c1', hv1, hc1, hc2⟩ := own_shape hown1 h0
          injection hv1 with e1 _ e3
          subst e1; subst e3
          have hcb : c ≠ h.b := by have := tA.below.size; omega
          obtain ⟨_, cap, cur, hv1, _, hcur, _⟩ := hown1.2.resolve_left (by rintro ⟨h, _⟩; omega)
          injection hv1 with e1 _ e3
          injection e1 with e1
          injection e1 with e1
          subst e1
          refine ⟨_, c1, c, w1, _, hrun, rfl, x2, hfzz, World.cell?_setCell_same _ _ _ x2, fun _ => rfl, Lib.hid ⟨t2, y0, y1, by omega, .inr ⟨h0, ⟨cur, (Below.heap_setCell _ _ _ _ hcb).trans hcur⟩, fun j u hj => ?_, c1, rfl, hmc, hcm⟩, ownW⟩⟩
          have hjl : j < m * 3 := by have := (List.getElem?_eq_some_iff.1 hj).1; rw [trC_len, Fo.top_len, hm] at this; exact this
          rw [World.cell?_setCell_other _ _ _ _ (by intro e; injection e with e _; exact hcb e.symm), hown1.cellAt j hjl]
          exact hj
      have MID := Lib.hid mid
      clear mid hown own1 hat hap hwd hv hT hb hq hfz hrt hrb hm HN HI
      obtain ⟨hB_, hO, hk_, hn_, ⟨p1, p2, p3⟩, hps_⟩ := h
      dsimp only [slv] at d0 d1 d2 MID hnc e0 hfz1 hfz2 hgh hbB hlt ⊢
      generalize wr = wo at *
      by_cases hk1 : hk_ = 1
      case' pos =>
        subst hk1
        obtain ⟨wA, hwA⟩ : ∃ wA, wo.setCell ⟨hB_, hO + 1, none⟩ (.int .i64 (num hn_)) = wA := ⟨_, rfl⟩
        have a2 : wA.cell? ⟨hB_, hO + 2, none⟩ = some (.slice p1 p2 p3) := by rw [← hwA]; exact (World.cell?_setCell_other _ _ _ _ (by intro e; injection e with _ e; omega)).trans d2
        obtain ⟨A1, c1, c, w1, w2, hrun, hset, hsome, hfr, hc2, hA1, HF⟩ := MID.out wA (by rw [← hwA]; exact Tch.set 1 (by omega) HT.out hbB _) (by rw [← hwA]; simp [World.setCell]) (by rw [← hwA]; exact (World.cell?_setCell_other _ _ _ _ (by intro e; injection e with _ e; omega)).trans d0) (by rw [← hwA, World.cell?_setCell_same _ _ _ d1]; rfl) a2 (by rw [← hwA]; exact own_touch HO.out HT.out.2 (by decide) _ _)
        have HA1 := Lib.hid hA1
        have HC := Lib.hid hnc
        clear hA1 hnc
        go_wp2_with (go_at_fn gf; refine HC.out.mono ?_; rintro e w' ⟨rfl, hw'⟩; subst w')
      case' neg =>
        have f1 : (hk_ == 1) = false := beq_eq_false_iff_ne.2 hk1
        obtain ⟨A1, c1, c, w1, w2, hrun, hset, hsome, hfr, hc2, hA1, HF⟩ := MID.out wo (Tch.refl _ _ _ _ _) rfl d0 (by rw [d1, nm, if_neg hk1]) d2 HO.out
        have HA1 := Lib.hid hA1
        clear hA1 hnc hk1
        go_wp2_with fail
      all_goals
        go_loopw [5, 50] (fun t5 t50 w5 => ∃ j : Nat, j ≤ m ∧ t50 = .int .i64 j ∧ w5.ownsRow w.heap.size 64 1 t5 (q + j) (ptrs Hq ++ ptrs ((holesOf c 0 hps_).take j)) ∧ KeepT 24 w2 w5 ∧ Below w.heap.size w2 w5) (fun _ t _ => m - (intOf t).toNat)
        case atStart => exact ⟨0, Nat.zero_le _, rfl, by simpa [ptrs] using HF.out.2.2.2.2.2, KeepT.refl _ _, Below.refl _ _⟩
        case round =>
          obtain ⟨j, hj, rfl, hown, hkt, hbw⟩ := hrel
          have hT2 := HF.out.1.kept _ HT.out
          have hx2 : wr.cell? ⟨hB_, hO + 2, none⟩ = some (.slice A1 m c1) := (hkt.cell hT2 _).trans hc2
          have HOW := Lib.hid hown
          have HKT := Lib.hid hkt
          have HBW := Lib.hid hbw
          clear hown hkt hbw hT2
          by_cases hjl : j < m
          · have hA2 := HA1.out (by omega)
            subst hA2
            have hpt := ptrs_take c hps_ 0 j (by rw [HMM.out]; exact hjl)
            rw [Nat.zero_add] at hpt
            have hwz := Nat.le_trans HB.out.size (Nat.le_trans HF.out.1.below.size HBW.out.size)
            obtain ⟨W1, hW1⟩ : ∃ W1, W1 = wr.alloc (.cells #[.pointer (some ⟨c, j * 3, none⟩)] 64) := ⟨_, rfl⟩
            have rd1 : Rd W1 1 (.slice (some ⟨wr.heap.size, 0, none⟩) 1 1) 1 [.pointer (some ⟨c, j * 3, none⟩)] := by
              rw [hW1]; exact rd_new wr [.pointer (some ⟨c, j * 3, none⟩)] 64 1 1 rfl (by unfold maxLen; omega)
            have own1 := HOW.out.alloc (.cells #[.pointer (some ⟨c, j * 3, none⟩)] 64)
            rw [← hW1] at own1
            have hbW : Below w.heap.size wr W1 := by rw [hW1]; exact (Below.refl _ _).alloc hwz _
            obtain ⟨i0, hi0, hz0, hz1, hz2⟩ := info_parts ptrInfo
            obtain ⟨v1, w7, hrun7, hown7, hg7, _⟩ := run_append_rd (P := Try.prog) W1 w.heap.size 65 65 64 i0 _ 1 8 Try.underlying65 hi0 hz0 hz1 hz2 rfl (by omega) u5 _ _ own1 _ 1 _ rd1 (by simp [Value.oneCell']) (by unfold maxLen; omega) (by omega) (Nat.le_trans hwz hbW.size)
            have k1 : KeepT 24 wr W1 := by rw [hW1]; exact (KeepT.refl _ _).alloc _
            have k7 : KeepT 24 w2 w7 := (HKT.out.trans k1).trans (KeepT.grown hg7 (row_not own1 (by decide)))
            have b7 : Below w.heap.size w2 w7 := HBW.out.trans (hbW.trans ((Below.refl _ _).grown hg7 (Nat.le_trans hwz hbW.size) (fun k e => (own1.lt k e).1)))
            have hrun8 : (app_ #[65, 65] 65 #[u5, .slice (some ⟨wr.heap.size, 0, none⟩) 1 1]).run Try.prog W1 = .ok v1 w7 := hrun7
            rw [hW1] at hrun8
            rw [List.append_assoc, ← hpt] at hown7
            have HO7 := Lib.hid hown7
            have HK7 := Lib.hid k7
            have HB7 := Lib.hid b7
            clear hrun7 hown7 hg7 own1 rd1 hbW hW1 k1 k7 b7 hpt hwz hrun hset
            go_wp2_with fail
            go_roundw
            case rel => exact ⟨j + 1, by omega, by go_num, HO7.out, HK7.out, HB7.out⟩
            case measure => simp [intOf]; omega
          · obtain rfl : j = m := by omega
            have hnew : ChInv num 24 64 w (w.heap.size + 1) w.heap.size k n ps u5 wr (left_ Hq + hps_.size) := by
              obtain ⟨t2, y0, y1, hcl, hu, _⟩ := HF.out
              have hT2 := t2.kept _ HT.out
              refine ch_step (c := c) (m := j) (u2 := (A1, j, c1)) HAT.out HAP.out HWD.out HB.out HRT.out hrt2 HRB.out HSM.out (t2.trans (Tch.keep HKT.out HBW.out)) HMM.out hcl ((HKT.out.cell hT2 _).trans y0) ((HKT.out.cell hT2 _).trans y1) hx2 ?_ ?_
              · rcases hu with h0 | ⟨hp, ⟨cs, hcs⟩, hcc, hh⟩
                · exact .inl h0
                · exact .inr ⟨hp, ⟨cs, HKT.out.2 _ _ hcs⟩, fun i u hi => (World.cell?_of_block ((HKT.out.2 _ _ hcs).trans hcs.symm)).trans (hcc i u hi), hh⟩
              · rw [HQ.out]
                have := HOW.out
                rw [List.take_of_length_le (by rw [holesOf_len, HMM.out]; exact Nat.le_refl _)] at this
                exact this
            have HN := Lib.hid hnew
            clear hnew hrun hset
            go_wp2_with fail
            go_roundw
            case rel => exact ⟨_, HN.out⟩
            case measure =>
              have h1 := HM.out
              rw [HQ.out, left_app] at h1
              simp only [left_, List.map_cons, List.map_nil, List.sum_cons, List.sum_nil] at h1
              refine Nat.lt_of_lt_of_le (Nat.lt_of_le_of_lt (least_of HN.out).2 ?_) (Nat.le_of_eq h1)
              simp only [left_]
              omega
    · obtain ⟨A, c, rfl, _, _⟩ := own_form hown
      obtain ⟨g, hg, c0, c1, u', c2, hv⟩ := hwd wr (Nat.le_refl _) (fun h hh => by cases hh) (fun _ _ _ _ _ => rfl)
      have HWD := Lib.hid hwd
      have HRB : Hid (isT 24 (w.heap.size + 1) wr w.heap.size) := Lib.hid hrb
      have hfz := frozen_cells hrt
      have r0 := cell_of_row wr (w.heap.size + 1) 0 _ _ (0, 0) hrt
      have r1 := cell_of_row wr (w.heap.size + 1) 1 _ _ (0, 0) hrt
      have r2 := cell_of_row wr (w.heap.size + 1) 2 _ _ (0, 0) hrt
      simp [rt0] at r0 r1 r2
      have HRT := Lib.hid hrt
      have z0 := hfz 0
      have z1 := hfz 1
      have z2 := hfz 2
      obtain ⟨u1', u2', u3'⟩ := u'
      dsimp only [slv] at c2
      clear hwd hown hat hap hs hfz hrt hrb
      dsimp only [List.length_nil]
      go_wp2_with fail
      have hb1 : Below w.heap.size wr (((wr.setCell ⟨w.heap.size + 1, 0, none⟩ (.int .i64 k)).setCell ⟨w.heap.size + 1, 1, none⟩ (.int .i64 (nm num k n))).setCell ⟨w.heap.size + 1, 2, none⟩ (.slice u1' u2' u3')) :=
        (((Below.refl _ _).setCell (by simp) _).setCell (by simp) _).setCell (by simp) _
      have far : ∀ b off, b ≠ w.heap.size + 1 → (((wr.setCell ⟨w.heap.size + 1, 0, none⟩ (.int .i64 k)).setCell ⟨w.heap.size + 1, 1, none⟩ (.int .i64 (nm num k n))).setCell ⟨w.heap.size + 1, 2, none⟩ (.slice u1' u2' u3')).cell? ⟨b, off, none⟩ = wr.cell? ⟨b, off, none⟩ := by
        intro b off hne
        rw [World.cell?_setCell_other _ _ _ _ (by intro e; injection e with e _; exact hne e.symm), World.cell?_setCell_other _ _ _ _ (by intro e; injection e with e _; exact hne e.symm), World.cell?_setCell_other _ _ _ _ (by intro e; injection e with e _; exact hne e.symm)]
      have s0 : (((wr.setCell ⟨w.heap.size + 1, 0, none⟩ (.int .i64 k)).setCell ⟨w.heap.size + 1, 1, none⟩ (.int .i64 (nm num k n))).setCell ⟨w.heap.size + 1, 2, none⟩ (.slice u1' u2' u3')).cell? ⟨w.heap.size + 1, 0, none⟩ = some (.int .i64 k) := by
        rw [World.cell?_setCell_other _ _ _ _ (by intro e; injection e with _ e; omega), World.cell?_setCell_other _ _ _ _ (by intro e; injection e with _ e; omega), World.cell?_setCell_same _ _ _ r0]
      have s1 : (((wr.setCell ⟨w.heap.size + 1, 0, none⟩ (.int .i64 k)).setCell ⟨w.heap.size + 1, 1, none⟩ (.int .i64 (nm num k n))).setCell ⟨w.heap.size + 1, 2, none⟩ (.slice u1' u2' u3')).cell? ⟨w.heap.size + 1, 1, none⟩ = some (.int .i64 (nm num k n)) := by
        rw [World.cell?_setCell_other _ _ _ _ (by intro e; injection e with _ e; omega)]
        exact World.cell?_setCell_same _ _ _ ((World.cell?_setCell_other _ _ _ _ (by intro e; injection e with _ e; omega)).trans r1)
      have s2 : (((wr.setCell ⟨w.heap.size + 1, 0, none⟩ (.int .i64 k)).setCell ⟨w.heap.size + 1, 1, none⟩ (.int .i64 (nm num k n))).setCell ⟨w.heap.size + 1, 2, none⟩ (.slice u1' u2' u3')).cell? ⟨w.heap.size + 1, 2, none⟩ = some (slv (u1', u2', u3')) :=
        World.cell?_setCell_same _ _ _ ((World.cell?_setCell_other _ _ _ _ (by intro e; injection e with _ e; omega)).trans ((World.cell?_setCell_other _ _ _ _ (by intro e; injection e with _ e; omega)).trans r2))
      refine bodyPost_ret (results_box rfl _ _ _ _ rfl (load_ty s0 s1 s2)) rfl ?_
      refine ⟨(u1', u2', u3'), rfl, hb.trans hb1, fun W hWs hWc => ?_⟩
      have hrl := (Array.getElem?_eq_some_iff.1 HRT.out).1
      have hWf : ∀ b off, w.heap.size ≤ b → isT 24 (w.heap.size + 1) wr b → W.cell? ⟨b, off, none⟩ = wr.cell? ⟨b, off, none⟩ := by
        intro b off hB ⟨hne, cs, hc⟩
        exact World.cell?_of_block ((hWc b cs hB (by
          rw [Below.heap_setCell _ _ _ _ (by simpa using hne), Below.heap_setCell _ _ _ _ (by simpa using hne), Below.heap_setCell _ _ _ _ (by simpa using hne)]
          exact hc)).trans hc.symm)
      obtain ⟨g', hg', _, _, ⟨v1', v2', v3'⟩, c2', hv'⟩ := HWD.out W (Nat.le_trans hb1.size hWs) (fun h hh => by cases hh) (fun b off hB hT _ => hWf b off hB hT)
      have hrbT : isT 24 (w.heap.size + 1) wr w.heap.size := HRB.out
      rw [hWf _ _ (Nat.le_refl _) hrbT, c2] at c2'
      unfold slv at c2'
      injection c2' with c2'
      injection c2' with e1 e2 e3
      subst e1; subst e2; subst e3
      exact ⟨g', hg', hv'⟩
end Go.Proofs.Ytfoangiphbmipaa
