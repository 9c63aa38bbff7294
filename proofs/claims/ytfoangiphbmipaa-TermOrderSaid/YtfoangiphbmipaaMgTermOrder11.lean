/- Texts of one proof, one behind the other. -/
import Derived.Test.YtfoangiphbmipaaMgTermOrder10
import Derived.Test.YtfoangiphbmipaaMgTermOrder7
import Derived.Deep.RegionWith
/- term.Copy. -/
namespace Go.Proofs.Ytfoangiphbmipaa
open Go.RowKit Go.Shelf
attribute [local go_sem ↓] builtin_app
theorem eptrInfo : (Try.prog.info? 53).map (fun i => (i.zero, i.size, i.bytes)) = some (some (.pointer none), 1, 8) := by kernel_rfl
theorem flat9_one (L : List Tm) : ∀ u ∈ (L.flatMap fun t => ndC t.1), u.oneCell' = true := by
  intro u hu
  obtain ⟨t, _, h⟩ := List.mem_flatMap.1 hu
  exact ndC_one _ u h
/-- A term, loaded. -/
theorem load_te {w : World} {g o : Nat} {x : Nd} (h : NdAt w g o x) : (loadVar 29 ⟨g, o, none⟩).run Try.prog w = .ok (teVal x) w := by
  obtain ⟨h0, h1, h2, h3, h4, h5, h6, h7, h8⟩ := h
  unfold slv at h5 h6
  unfold teVal slv
  go_simp
/-- A term, stored into a box of its own. -/
theorem set9_block {w : World} {g : Nat} {T : TypeId} {c0 c1 c2 c3 c4 c5 c6 c7 c8 : Value} (x : Nd) (h : w.heap[g]? = some (Obj.cells #[c0, c1, c2, c3, c4, c5, c6, c7, c8] T)) :
    (((((((((w.setCell ⟨g, 0, none⟩ (.int .i64 x.k)).setCell ⟨g, 1, none⟩ (.string x.s)).setCell ⟨g, 2, none⟩ (.int .i64 x.n)).setCell ⟨g, 3, none⟩ (.int .i64 x.tk)).setCell ⟨g, 4, none⟩ (.int .i64 x.tn)).setCell ⟨g, 5, none⟩ (slv x.tu)).setCell ⟨g, 6, none⟩ (slv x.u)).setCell ⟨g, 7, none⟩ (.int .i64 x.a)).setCell ⟨g, 8, none⟩ (.int .i64 x.b)).heap[g]? = some (Obj.cells (ndC x).toArray T) ∧ (((((((((w.setCell ⟨g, 0, none⟩ (.int .i64 x.k)).setCell ⟨g, 1, none⟩ (.string x.s)).setCell ⟨g, 2, none⟩ (.int .i64 x.n)).setCell ⟨g, 3, none⟩ (.int .i64 x.tk)).setCell ⟨g, 4, none⟩ (.int .i64 x.tn)).setCell ⟨g, 5, none⟩ (slv x.tu)).setCell ⟨g, 6, none⟩ (slv x.u)).setCell ⟨g, 7, none⟩ (.int .i64 x.a)).setCell ⟨g, 8, none⟩ (.int .i64 x.b)).heap.size = w.heap.size ∧ (∀ b, b ≠ g → (((((((((w.setCell ⟨g, 0, none⟩ (.int .i64 x.k)).setCell ⟨g, 1, none⟩ (.string x.s)).setCell ⟨g, 2, none⟩ (.int .i64 x.n)).setCell ⟨g, 3, none⟩ (.int .i64 x.tk)).setCell ⟨g, 4, none⟩ (.int .i64 x.tn)).setCell ⟨g, 5, none⟩ (slv x.tu)).setCell ⟨g, 6, none⟩ (slv x.u)).setCell ⟨g, 7, none⟩ (.int .i64 x.a)).setCell ⟨g, 8, none⟩ (.int .i64 x.b)).heap[b]? = w.heap[b]?) ∧ Below g w (((((((((w.setCell ⟨g, 0, none⟩ (.int .i64 x.k)).setCell ⟨g, 1, none⟩ (.string x.s)).setCell ⟨g, 2, none⟩ (.int .i64 x.n)).setCell ⟨g, 3, none⟩ (.int .i64 x.tk)).setCell ⟨g, 4, none⟩ (.int .i64 x.tn)).setCell ⟨g, 5, none⟩ (slv x.tu)).setCell ⟨g, 6, none⟩ (slv x.u)).setCell ⟨g, 7, none⟩ (.int .i64 x.a)).setCell ⟨g, 8, none⟩ (.int .i64 x.b)) := by
  have h0 : (w.setCell ⟨g, 0, none⟩ (.int .i64 x.k)).heap[g]? = some (Obj.cells #[.int .i64 x.k, c1, c2, c3, c4, c5, c6, c7, c8] T) := heap_setCell_same w _ _ _ T _ h
  have h1 : ((w.setCell ⟨g, 0, none⟩ (.int .i64 x.k)).setCell ⟨g, 1, none⟩ (.string x.s)).heap[g]? = some (Obj.cells #[.int .i64 x.k, .string x.s, c2, c3, c4, c5, c6, c7, c8] T) := heap_setCell_same (w.setCell ⟨g, 0, none⟩ (.int .i64 x.k)) _ _ _ T _ h0
  have h2 : (((w.setCell ⟨g, 0, none⟩ (.int .i64 x.k)).setCell ⟨g, 1, none⟩ (.string x.s)).setCell ⟨g, 2, none⟩ (.int .i64 x.n)).heap[g]? = some (Obj.cells #[.int .i64 x.k, .string x.s, .int .i64 x.n, c3, c4, c5, c6, c7, c8] T) := heap_setCell_same ((w.setCell ⟨g, 0, none⟩ (.int .i64 x.k)).setCell ⟨g, 1, none⟩ (.string x.s)) _ _ _ T _ h1
  have h3 : ((((w.setCell ⟨g, 0, none⟩ (.int .i64 x.k)).setCell ⟨g, 1, none⟩ (.string x.s)).setCell ⟨g, 2, none⟩ (.int .i64 x.n)).setCell ⟨g, 3, none⟩ (.int .i64 x.tk)).heap[g]? = some (Obj.cells #[.int .i64 x.k, .string x.s, .int .i64 x.n, .int .i64 x.tk, c4, c5, c6, c7, c8] T) := heap_setCell_same (((w.setCell ⟨g, 0, none⟩ (.int .i64 x.k)).setCell ⟨g, 1, none⟩ (.string x.s)).setCell ⟨g, 2, none⟩ (.int .i64 x.n)) _ _ _ T _ h2
  have h4 : (((((w.setCell ⟨g, 0, none⟩ (.int .i64 x.k)).setCell ⟨g, 1, none⟩ (.string x.s)).setCell ⟨g, 2, none⟩ (.int .i64 x.n)).setCell ⟨g, 3, none⟩ (.int .i64 x.tk)).setCell ⟨g, 4, none⟩ (.int .i64 x.tn)).heap[g]? = some (Obj.cells #[.int .i64 x.k, .string x.s, .int .i64 x.n, .int .i64 x.tk, .int .i64 x.tn, c5, c6, c7, c8] T) := heap_setCell_same ((((w.setCell ⟨g, 0, none⟩ (.int .i64 x.k)).setCell ⟨g, 1, none⟩ (.string x.s)).setCell ⟨g, 2, none⟩ (.int .i64 x.n)).setCell ⟨g, 3, none⟩ (.int .i64 x.tk)) _ _ _ T _ h3
  have h5 : ((((((w.setCell ⟨g, 0, none⟩ (.int .i64 x.k)).setCell ⟨g, 1, none⟩ (.string x.s)).setCell ⟨g, 2, none⟩ (.int .i64 x.n)).setCell ⟨g, 3, none⟩ (.int .i64 x.tk)).setCell ⟨g, 4, none⟩ (.int .i64 x.tn)).setCell ⟨g, 5, none⟩ (slv x.tu)).heap[g]? = some (Obj.cells #[.int .i64 x.k, .string x.s, .int .i64 x.n, .int .i64 x.tk, .int .i64 x.tn, slv x.tu, c6, c7, c8] T) := heap_setCell_same (((((w.setCell ⟨g, 0, none⟩ (.int .i64 x.k)).setCell ⟨g, 1, none⟩ (.string x.s)).setCell ⟨g, 2, none⟩ (.int .i64 x.n)).setCell ⟨g, 3, none⟩ (.int .i64 x.tk)).setCell ⟨g, 4, none⟩ (.int .i64 x.tn)) _ _ _ T _ h4
  have h6 : (((((((w.setCell ⟨g, 0, none⟩ (.int .i64 x.k)).setCell ⟨g, 1, none⟩ (.string x.s)).setCell ⟨g, 2, none⟩ (.int .i64 x.n)).setCell ⟨g, 3, none⟩ (.int .i64 x.tk)).setCell ⟨g, 4, none⟩ (.int .i64 x.tn)).setCell ⟨g, 5, none⟩ (slv x.tu)).setCell ⟨g, 6, none⟩ (slv x.u)).heap[g]? = some (Obj.cells #[.int .i64 x.k, .string x.s, .int .i64 x.n, .int .i64 x.tk, .int .i64 x.tn, slv x.tu, slv x.u, c7, c8] T) := heap_setCell_same ((((((w.setCell ⟨g, 0, none⟩ (.int .i64 x.k)).setCell ⟨g, 1, none⟩ (.string x.s)).setCell ⟨g, 2, none⟩ (.int .i64 x.n)).setCell ⟨g, 3, none⟩ (.int .i64 x.tk)).setCell ⟨g, 4, none⟩ (.int .i64 x.tn)).setCell ⟨g, 5, none⟩ (slv x.tu)) _ _ _ T _ h5
  have h7 : ((((((((w.setCell ⟨g, 0, none⟩ (.int .i64 x.k)).setCell ⟨g, 1, none⟩ (.string x.s)).setCell ⟨g, 2, none⟩ (.int .i64 x.n)).setCell ⟨g, 3, none⟩ (.int .i64 x.tk)).setCell ⟨g, 4, none⟩ (.int .i64 x.tn)).setCell ⟨g, 5, none⟩ (slv x.tu)).setCell ⟨g, 6, none⟩ (slv x.u)).setCell ⟨g, 7, none⟩ (.int .i64 x.a)).heap[g]? = some (Obj.cells #[.int .i64 x.k, .string x.s, .int .i64 x.n, .int .i64 x.tk, .int .i64 x.tn, slv x.tu, slv x.u, .int .i64 x.a, c8] T) := heap_setCell_same (((((((w.setCell ⟨g, 0, none⟩ (.int .i64 x.k)).setCell ⟨g, 1, none⟩ (.string x.s)).setCell ⟨g, 2, none⟩ (.int .i64 x.n)).setCell ⟨g, 3, none⟩ (.int .i64 x.tk)).setCell ⟨g, 4, none⟩ (.int .i64 x.tn)).setCell ⟨g, 5, none⟩ (slv x.tu)).setCell ⟨g, 6, none⟩ (slv x.u)) _ _ _ T _ h6
  have h8 : (((((((((w.setCell ⟨g, 0, none⟩ (.int .i64 x.k)).setCell ⟨g, 1, none⟩ (.string x.s)).setCell ⟨g, 2, none⟩ (.int .i64 x.n)).setCell ⟨g, 3, none⟩ (.int .i64 x.tk)).setCell ⟨g, 4, none⟩ (.int .i64 x.tn)).setCell ⟨g, 5, none⟩ (slv x.tu)).setCell ⟨g, 6, none⟩ (slv x.u)).setCell ⟨g, 7, none⟩ (.int .i64 x.a)).setCell ⟨g, 8, none⟩ (.int .i64 x.b)).heap[g]? = some (Obj.cells #[.int .i64 x.k, .string x.s, .int .i64 x.n, .int .i64 x.tk, .int .i64 x.tn, slv x.tu, slv x.u, .int .i64 x.a, .int .i64 x.b] T) := heap_setCell_same ((((((((w.setCell ⟨g, 0, none⟩ (.int .i64 x.k)).setCell ⟨g, 1, none⟩ (.string x.s)).setCell ⟨g, 2, none⟩ (.int .i64 x.n)).setCell ⟨g, 3, none⟩ (.int .i64 x.tk)).setCell ⟨g, 4, none⟩ (.int .i64 x.tn)).setCell ⟨g, 5, none⟩ (slv x.tu)).setCell ⟨g, 6, none⟩ (slv x.u)).setCell ⟨g, 7, none⟩ (.int .i64 x.a)) _ _ _ T _ h7
  refine ⟨h8, by simp [World.setCell], fun b hb => ?_, ?_⟩
  · rw [Below.heap_setCell _ _ _ _ (by simpa using hb), Below.heap_setCell _ _ _ _ (by simpa using hb), Below.heap_setCell _ _ _ _ (by simpa using hb), Below.heap_setCell _ _ _ _ (by simpa using hb), Below.heap_setCell _ _ _ _ (by simpa using hb), Below.heap_setCell _ _ _ _ (by simpa using hb), Below.heap_setCell _ _ _ _ (by simpa using hb), Below.heap_setCell _ _ _ _ (by simpa using hb), Below.heap_setCell _ _ _ _ (by simpa using hb)]
  · exact ((((((((((Below.refl g w).setCell (p := ⟨g, 0, none⟩) (Nat.le_refl g) _).setCell (p := ⟨g, 1, none⟩) (Nat.le_refl g) _).setCell (p := ⟨g, 2, none⟩) (Nat.le_refl g) _).setCell (p := ⟨g, 3, none⟩) (Nat.le_refl g) _).setCell (p := ⟨g, 4, none⟩) (Nat.le_refl g) _).setCell (p := ⟨g, 5, none⟩) (Nat.le_refl g) _).setCell (p := ⟨g, 6, none⟩) (Nat.le_refl g) _).setCell (p := ⟨g, 7, none⟩) (Nat.le_refl g) _).setCell (p := ⟨g, 8, none⟩) (Nat.le_refl g) _)
set_option maxHeartbeats 4000000 in
set_option maxRecDepth 100000 in
theorem ecopy_any (w : World) (x : Nd) (ps : Te) (hx : TmL w.heap.size w (x, ps)) (hs : ps.size < 1000000) (hty : x.ty.size < 1000000) (htb : ps.tyb) :
    Calls Try.prog 18 #[teVal x] w fun e w' => ∃ tu u : Sl, e = .returned (teVal { x with tu := tu, u := u }) ∧ Below w.heap.size w w' ∧ FreshE w.heap.size w' x ps tu u := by
  obtain ⟨w3, hw3⟩ : ∃ w3, ((w.alloc (.cells (ndC x).toArray 29)).alloc (.cells ert0 29)).alloc (.cells #[.pointer (some ⟨w.heap.size, 0, none⟩)] 53) = w3 := ⟨_, rfl⟩
  have hinv : ECh 29 24 53 w (w.heap.size + 1) w.heap.size x ps (.slice (some ⟨w.heap.size + 1 + 1, 0, none⟩) 1 1) w3 (1 + ps.size) := by
    have hb : Below w.heap.size w w3 := by rw [← hw3]; exact (((Below.refl _ w).alloc (Nat.le_refl _) _).alloc (by simp) _).alloc (by simp only [World.size_alloc]; omega) _
    have h0 : w3.heap[w.heap.size]? = some (.cells (ndC x).toArray 29) := by
      rw [← hw3]
      exact (Below.heap_alloc _ _ _ (by simp only [World.size_alloc]; omega)).trans ((Below.heap_alloc _ _ _ (by simp)).trans (heap_alloc_new w _))
    have h1 : w3.heap[w.heap.size + 1]? = some (.cells ert0 29) := by
      rw [← hw3]
      refine (Below.heap_alloc _ _ _ (by simp only [World.size_alloc]; omega)).trans ?_
      have := heap_alloc_new (w.alloc (.cells (ndC x).toArray 29)) (.cells ert0 29)
      rwa [World.size_alloc] at this
    have hn : NdAt w3 w.heap.size 0 x := NdAt.of_cells fun j u hu => by
      have := cell_of_row w3 w.heap.size j _ _ (0, 0) h0
      rw [Nat.zero_add, this]
      simpa using hu
    refine ⟨[⟨w.heap.size, 0, x, ps⟩], by simp [eleft], by omega, ?_, ?_, List.pairwise_singleton _ _, ?_, hb, h1, by omega, ⟨by omega, _, h0⟩⟩
    · have := own_full ((w.alloc (.cells (ndC x).toArray 29)).alloc (.cells ert0 29)) w.heap.size (by simp only [World.size_alloc]; omega) 53 1 1 [.pointer (some ⟨w.heap.size, 0, none⟩)] rfl (by unfold maxLen; omega)
      simp only [World.size_alloc] at this
      rw [← hw3]
      simpa [eptrs] using this
    · intro h hh
      obtain rfl : h = ⟨w.heap.size, 0, x, ps⟩ := by simpa using hh
      exact ⟨Nat.le_refl _, ⟨by simp only; omega, _, h0⟩, hn, hx.below hb, hty, htb⟩
    · intro W hsz hd _ _
      exact hd _ (List.mem_singleton.2 rfl)
  obtain ⟨x0, x1, x2, x3, x4, ⟨xu1, xu2, xu3⟩, x6, ⟨xv1, xv2, xv3⟩, x8, x9⟩ := x
  dsimp only [ndC, slv, ert0] at hw3
  have HI := Lib.hid hinv
  have HW3 := Lib.hid hw3
  clear hinv hw3 hx hty htb
  dsimp only [teVal, slv]
  obtain ⟨X, hX⟩ : ∃ X : Nd, (⟨x0, x1, x2, x3, x4, (xu1, xu2, xu3), x6, (xv1, xv2, xv3), x8, x9⟩ : Nd) = X := ⟨_, rfl⟩
  rw [hX] at HI
  have HX := Lib.hid hX
  clear hX
  go_enter Try.func18, Try.ntmps18
  go_wp2_with fail
  go_loopw [3] (fun t3 wr => ∃ s, ECh 29 24 53 w (w.heap.size + 1) w.heap.size X ps t3 wr s) (fun t3 wr => least (ECh 29 24 53 w (w.heap.size + 1) w.heap.size X ps t3 wr))
  case atStart => exact ⟨_, by rw [HW3.out]; exact HI.out⟩
  case round =>
    obtain ⟨s, hs⟩ := hrel
    obtain ⟨⟨Hs, hsum, hsm, hown, hat, hap, hwd, hb, hrt, hrt2, hrb⟩, _⟩ := least_of hs
    have HM := Lib.hid hsum
    clear hs hsum
    rcases List.eq_nil_or_concat Hs with rfl | ⟨Hq, h, rfl⟩
    rotate_left
    · rw [List.concat_eq_append] at *
      rw [List.length_append, List.length_singleton] at hown
      obtain ⟨g, cp, rfl, hg1, hg2⟩ := own_shape hown (by omega)
      obtain ⟨hbB, hT, hnd, hv, hty, htb⟩ := hat h (List.mem_append_right _ (List.mem_singleton.2 rfl))
      obtain ⟨q, hq⟩ : ∃ q, Hq.length = q := ⟨_, rfl⟩
      rw [hq] at hown ⊢
      have hql : q ≤ 1000000 := by have := eleft_len (Hq ++ [h]); rw [List.length_append] at this; have := HM.out; omega
      have e0 : wr.cell? ⟨g, q, none⟩ = some (.pointer (some ⟨h.b, h.off, none⟩)) := by
        rw [hown.cellAt _ (by omega), eptrs_app, List.getElem?_append_right (by rw [eptrs_len]; omega), eptrs_len, hq]
        simp [eptrs]
      have hcp : q + 1 ≤ cp := by
        obtain ⟨_, _, hv, h1, _⟩ := own_form hown
        injection hv with _ _ h3
        omega
      have hz : decide ((q : Int) ≤ (cp : Int)) = true := by simp; omega
      have hz0 : (0 : Int) ≤ (q : Int) := by omega
      have own1 : wr.ownsRow w.heap.size 53 1 (.slice (some ⟨g, 0, none⟩) q cp) q (eptrs Hq) := by
        rw [eptrs_app] at hown
        exact own_cut hown q (by omega) (by rw [eptrs_len, hq, Nat.mul_one])
      have hwr : w.heap.size + 1 < wr.heap.size := (Array.getElem?_eq_some_iff.1 hrt).1
      have hlt := hT.lt
      have HV := Lib.hid (And.intro hv (And.intro hty htb))
      have HT := Lib.hid hT
      have HAP := Lib.hid hap
      have HWD := Lib.hid hwd
      have HAT := Lib.hid hat
      have HO := Lib.hid own1
      have HB := Lib.hid hb
      have HQ := Lib.hid hq
      have HRT := Lib.hid hrt
      have HRB : Hid (isT 29 (w.heap.size + 1) wr w.heap.size) := Lib.hid hrb
      have HSM := Lib.hid (show eleft (Hq ++ [h]) ≤ 1000000 by have := HM.out; omega)
      obtain ⟨m, hm⟩ : ∃ m, h.ps.len = m := ⟨_, rfl⟩
      have hml : m ≤ 1000000 := by
        have := h.ps.len_le_size
        have h2 := HSM.out
        rw [eleft_app] at h2
        simp only [eleft, List.map_cons, List.map_nil, List.sum_cons, List.sum_nil] at h2
        omega
      have HMM := Lib.hid hm
      -- what the two ways through the question 'is there a type?' leave
      have mid : ∀ (wA : World) (tX : Sl), ETch 29 24 (w.heap.size + 1) w.heap.size h wr wA → wr.heap.size ≤ wA.heap.size → NdAt wA h.b h.off { h.x with tu := tX } → FreshT 24 w.heap.size wA idn h.x.ty tX → wA.ownsRow w.heap.size 53 1 (.slice (some ⟨g, 0, none⟩) q cp) q (eptrs Hq) →
          ∃ (A1 : Option Addr) (c1 c : Nat) (w1 w2 : World), (app_ #[25, 25] 25 #[.slice none 0 0, slv h.x.u]).run Try.prog wA = .ok (.slice A1 m c1) w1 ∧ w1.setCell ⟨h.b, h.off + 6, none⟩ (.slice A1 m c1) = w2 ∧ w1.cell? ⟨h.b, h.off + 6, none⟩ = some (slv h.x.u) ∧ w1.frozen? ⟨h.b, h.off + 6, none⟩ = false ∧
            w2.cell? ⟨h.b, h.off + 6, none⟩ = some (.slice A1 m c1) ∧ (0 < m → A1 = some ⟨c, 0, none⟩) ∧
            Hid (ETch 29 24 (w.heap.size + 1) w.heap.size h wr w2 ∧ NdAt w2 h.b h.off { h.x with tu := tX, u := (A1, m, c1) } ∧ FreshT 24 w.heap.size w2 idn h.x.ty tX ∧ wr.heap.size ≤ c ∧
              ((m = 0 ∧ ∃ A cp, (A1, m, c1) = (A, 0, cp)) ∨ (0 < m ∧ (∃ cs, w2.heap[c]? = some (Obj.cells cs 29)) ∧ (∀ j u, (h.ps.top.flatMap fun t => ndC t.1)[j]? = some u → w2.cell? ⟨c, j, none⟩ = some u) ∧ ∃ cp, (A1, m, c1) = (some ⟨c, 0, none⟩, m, cp) ∧ m ≤ cp ∧ cp ≤ maxLen)) ∧
              w2.ownsRow w.heap.size 53 1 (.slice (some ⟨g, 0, none⟩) q cp) q (eptrs Hq)) := by
        intro wA tX tA hsz nA fA ownA
        have hTA := tA.kept _ HT.out
        have hvA := HV.out.1.2.below tA.below
        obtain ⟨i0, hi0, hz0, hz1, hz2⟩ := info_parts teInfo
        have rd := TeV.rd9 (Nat.le_trans HB.out.size tA.below.size) hvA
        rw [hm] at rd
        have own0 : wA.ownsRow wA.heap.size 29 9 (.slice none 0 0) 0 [] := ⟨rfl, .inl ⟨rfl, rfl⟩⟩
        obtain ⟨v1, w1, hrun, hown1, hg1, hat1⟩ := run_append_rd (P := Try.prog) wA wA.heap.size 25 25 29 i0 _ 9 112 Try.underlying25 hi0 hz0 hz1 hz2 rfl (by omega) (.slice none 0 0) 0 [] own0 _ m _ rd (flat9_one _) (by unfold maxLen; omega) (by omega) (Nat.le_refl _)
        simp only [Nat.zero_add, List.nil_append] at hown1
        obtain ⟨A1, c1, rfl, hmc, hcm⟩ := own_form hown1
        have kT : KeepT 29 wA w1 := KeepT.grown hg1 (fun r e => by cases e)
        have kY : KeepT 24 wA w1 := KeepT.grown hg1 (fun r e => by cases e)
        have bT : Below w.heap.size wA w1 := (Below.refl _ _).grown hg1 (Nat.le_trans HB.out.size tA.below.size) (fun r e => by cases e)
        have t1 : ETch 29 24 (w.heap.size + 1) w.heap.size h wr w1 := tA.trans (ETch.keep kT kY bT)
        have hT1 := t1.kept _ HT.out
        have n1 : NdAt w1 h.b h.off { h.x with tu := tX } := nA.to fun i _ => kT.cell hTA _
        have x2 : w1.cell? ⟨h.b, h.off + 6, none⟩ = some (slv h.x.u) := n1.2.2.2.2.2.2.1
        have t2' : ETch 29 24 (w.heap.size + 1) w.heap.size h w1 (w1.setCell ⟨h.b, h.off + 6, none⟩ (.slice A1 m c1)) := ETch.set (by decide) 6 (by omega) hT1 hbB _
        have t2 := t1.trans t2'
        have n2 : NdAt (w1.setCell ⟨h.b, h.off + 6, none⟩ (.slice A1 m c1)) h.b h.off { h.x with tu := tX, u := (A1, m, c1) } := by
          have oth : ∀ i, i ≠ 6 → (w1.setCell ⟨h.b, h.off + 6, none⟩ (.slice A1 m c1)).cell? ⟨h.b, h.off + i, none⟩ = w1.cell? ⟨h.b, h.off + i, none⟩ := fun i hi => World.cell?_setCell_other _ _ _ _ (by intro e; injection e with _ e; omega)
          obtain ⟨m0, m1, m2, m3, m4, m5, m6, m7, m8⟩ := n1
          exact ⟨(oth 0 (by omega)).trans m0, (oth 1 (by omega)).trans m1, (oth 2 (by omega)).trans m2, (oth 3 (by omega)).trans m3, (oth 4 (by omega)).trans m4, (oth 5 (by omega)).trans m5, World.cell?_setCell_same _ _ _ x2, (oth 7 (by omega)).trans m7, (oth 8 (by omega)).trans m8⟩
        have f2 : FreshT 24 w.heap.size (w1.setCell ⟨h.b, h.off + 6, none⟩ (.slice A1 m c1)) idn h.x.ty tX := fA.to (Nat.le_trans kT.1 t2'.below.size) fun b cs _ hl => t2'.ty b cs (kY.2 b cs hl)
        have hfzz : w1.frozen? ⟨h.b, h.off + 6, none⟩ = false := by obtain ⟨_, cs, hcs⟩ := hT1; exact frozen_cells hcs _
        have ownT : w1.ownsRow w.heap.size 53 1 (.slice (some ⟨g, 0, none⟩) q cp) q (eptrs Hq) := ownA.kept hg1 (.inr (by simp [Value.ownBlock]))
        have ownW : (w1.setCell ⟨h.b, h.off + 6, none⟩ (.slice A1 m c1)).ownsRow w.heap.size 53 1 (.slice (some ⟨g, 0, none⟩) q cp) q (eptrs Hq) := eown_touch ownT hT1.2 (by decide) _ _
        rcases Nat.eq_zero_or_pos m with h0 | h0
        · exact ⟨A1, c1, wr.heap.size, w1, _, hrun, rfl, x2, hfzz, World.cell?_setCell_same _ _ _ x2, fun h => by omega, Lib.hid ⟨t2, n2, f2, Nat.le_refl _, .inl ⟨h0, A1, c1, by rw [h0]⟩, ownW⟩⟩
        · obtain ⟨c, c1', hv1, hc1, hc2⟩ := own_shape hown1 h0
          injection hv1 with e1 _ e3
          subst e1; subst e3
          have hcb : c ≠ h.b := by have := tA.below.size; omega
          obtain ⟨_, cap, cur, hv1, _, hcur, _⟩ := hown1.2.resolve_left (by rintro ⟨h, _⟩; omega)
          injection hv1 with e1 _ e3
          injection e1 with e1
          injection e1 with e1
          subst e1
          refine ⟨_, c1, c, w1, _, hrun, rfl, x2, hfzz, World.cell?_setCell_same _ _ _ x2, fun _ => rfl, Lib.hid ⟨t2, n2, f2, by omega, .inr ⟨h0, ⟨cur, (Below.heap_setCell _ _ _ _ hcb).trans hcur⟩, fun j u hj => ?_, c1, rfl, hmc, hcm⟩, ownW⟩⟩
          have hjl : j < m * 9 := by have := (List.getElem?_eq_some_iff.1 hj).1; rw [ndCs_len, Te.top_len, hm] at this; exact this
          rw [World.cell?_setCell_other _ _ _ _ (by intro e; injection e with e _; exact hcb e.symm), hown1.cellAt j hjl]
          exact hj
      have MID := Lib.hid mid
      have HND := Lib.hid hnd
      have hfz : ∀ off, wr.frozen? ⟨h.b, off, none⟩ = false := fun off => by
        obtain ⟨_, cs, hcs⟩ := hT
        exact frozen_cells hcs off
      have hgh : g ≠ h.b := by
        rintro rfl
        obtain ⟨_, cs, hcs⟩ := hT
        exact row_not own1 (by decide) _ rfl cs hcs
      clear mid hown own1 hat hap hwd hv hT hb hq hfz hrt hrb hm HI
      obtain ⟨hB_, hO, ⟨y0, y1, y2, y3, y4, ⟨yu1, yu2, yu3⟩, y6, ⟨p1, p2, p3⟩, y8, y9⟩, hps_⟩ := h
      dsimp only [slv] at MID e0 hgh hbB hlt hnd hty htb ⊢
      obtain ⟨d0, d1, d2, d3, d4, d5, d6, d7, d8⟩ := hnd
      dsimp only [slv] at d5 d6
      generalize wr = wo at *
      cases yu1 with
      | none =>
        obtain ⟨rfl, rfl⟩ : y6 = .nil ∧ yu2 = 0 := by
          have h1 := HV.out.1.1
          cases y6 with
          | nil =>
            obtain ⟨A, c, e⟩ := tyV_nil.1 h1
            injection e with _ e _
            exact ⟨rfl, e⟩
          | cons =>
            obtain ⟨b, off, cap, e, _⟩ := tyV_cons.1 h1
            injection e with e
            cases e
        obtain ⟨A1, c1, c, w1, w2, hrun, hset, hsome, hfr, hc2, hA1, HF⟩ := MID.out wo (none, 0, yu3) (ETch.refl _ _ _ _ _ _) (Nat.le_refl _) HND.out (fun W _ _ => ⟨.nil, trivial, tyV_nil.2 ⟨none, yu3, rfl⟩⟩) HO.out
        -- tail of the first
        have HA1 := Lib.hid hA1
        clear hA1
        go_wp2_with fail
        go_loopw [3, 48] (fun t3 t48 w5 => ∃ j : Nat, j ≤ m ∧ t48 = .int .i64 j ∧ w5.ownsRow w.heap.size 53 1 t3 (q + j) (eptrs Hq ++ eptrs ((eholesOf c 0 hps_).take j)) ∧ KeepT 29 w2 w5 ∧ KeepT 24 w2 w5 ∧ Below w.heap.size w2 w5) (fun _ t _ => m - (intOf t).toNat)
        case atStart => exact ⟨0, Nat.zero_le _, rfl, by simpa [eptrs] using HF.out.2.2.2.2.2, KeepT.refl _ _, KeepT.refl _ _, Below.refl _ _⟩
        case round =>
          obtain ⟨j, hj, rfl, hown, hkt, hky, hbw⟩ := hrel
          have hT2 := HF.out.1.kept _ HT.out
          have hx2 : wr.cell? ⟨hB_, hO + 6, none⟩ = some (.slice A1 m c1) := (hkt.cell hT2 _).trans hc2
          have HOW := Lib.hid hown
          have HKT := Lib.hid (And.intro hkt hky)
          have HBW := Lib.hid hbw
          clear hown hkt hky hbw hT2
          by_cases hjl : j < m
          · have hA2 := HA1.out (by omega)
            subst hA2
            have hpt := eptrs_take c hps_ 0 j (by rw [HMM.out]; exact hjl)
            rw [Nat.zero_add] at hpt
            have hwz := Nat.le_trans HB.out.size (Nat.le_trans HF.out.1.below.size HBW.out.size)
            obtain ⟨W1, hW1⟩ : ∃ W1, W1 = wr.alloc (.cells #[.pointer (some ⟨c, j * 9, none⟩)] 53) := ⟨_, rfl⟩
            have rd1 : Rd W1 1 (.slice (some ⟨wr.heap.size, 0, none⟩) 1 1) 1 [.pointer (some ⟨c, j * 9, none⟩)] := by
              rw [hW1]; exact rd_new wr [.pointer (some ⟨c, j * 9, none⟩)] 53 1 1 rfl (by unfold maxLen; omega)
            have own1 := HOW.out.alloc (.cells #[.pointer (some ⟨c, j * 9, none⟩)] 53)
            rw [← hW1] at own1
            have hbW : Below w.heap.size wr W1 := by rw [hW1]; exact (Below.refl _ _).alloc hwz _
            obtain ⟨i0, hi0, hz0', hz1', hz2'⟩ := info_parts eptrInfo
            obtain ⟨v1, w7, hrun7, hown7, hg7, _⟩ := run_append_rd (P := Try.prog) W1 w.heap.size 54 54 53 i0 _ 1 8 Try.underlying54 hi0 hz0' hz1' hz2' rfl (by omega) u3 _ _ own1 _ 1 _ rd1 (by simp [Value.oneCell']) (by unfold maxLen; omega) (by omega) (Nat.le_trans hwz hbW.size)
            have k1 : KeepT 29 wr W1 := by rw [hW1]; exact (KeepT.refl _ _).alloc _
            have k1' : KeepT 24 wr W1 := by rw [hW1]; exact (KeepT.refl _ _).alloc _
            have k7 : KeepT 29 w2 w7 := (HKT.out.1.trans k1).trans (KeepT.grown hg7 (row_not own1 (by decide)))
            have k7' : KeepT 24 w2 w7 := (HKT.out.2.trans k1').trans (KeepT.grown hg7 (row_not own1 (by decide)))
            have b7 : Below w.heap.size w2 w7 := HBW.out.trans (hbW.trans ((Below.refl _ _).grown hg7 (Nat.le_trans hwz hbW.size) (fun k e => (own1.lt k e).1)))
            have hrun8 : (app_ #[54, 54] 54 #[u3, .slice (some ⟨wr.heap.size, 0, none⟩) 1 1]).run Try.prog W1 = .ok v1 w7 := hrun7
            rw [hW1] at hrun8
            rw [List.append_assoc, ← hpt] at hown7
            have HO7 := Lib.hid hown7
            have HK7 := Lib.hid (And.intro k7 k7')
            have HB7 := Lib.hid b7
            clear hrun7 hown7 hg7 own1 rd1 hbW hW1 k1 k1' k7 k7' b7 hpt hwz hrun hset
            go_wp2_with fail
            go_roundw
            case rel => exact ⟨j + 1, by omega, by go_num, HO7.out, HK7.out.1, HK7.out.2, HB7.out⟩
            case measure => simp [intOf]; omega
          · obtain rfl : j = m := by omega
            have hnew : ECh 29 24 53 w (w.heap.size + 1) w.heap.size X ps u3 wr (eleft Hq + hps_.size) := by
              obtain ⟨t2, n2, f2, hcl, hu, _⟩ := HF.out
              have hT2 := t2.kept _ HT.out
              refine ech_step (c := c) (m := j) (tu2 := (none, 0, yu3)) (u2 := (A1, j, c1)) HAT.out HAP.out HWD.out HB.out HRT.out (by omega) HRB.out HSM.out (t2.trans (ETch.keep HKT.out.1 HKT.out.2 HBW.out)) HMM.out hcl (n2.to fun i _ => HKT.out.1.cell hT2 _) (f2.to HKT.out.1.1 fun b cs _ hl => HKT.out.2.2 b cs hl) ?_ ?_
              · rcases hu with h0 | ⟨hp, ⟨cs, hcs⟩, hcc, hh⟩
                · exact .inl h0
                · exact .inr ⟨hp, ⟨cs, HKT.out.1.2 _ _ hcs⟩, fun i u hi => (World.cell?_of_block ((HKT.out.1.2 _ _ hcs).trans hcs.symm)).trans (hcc i u hi), hh⟩
              · rw [HQ.out]
                have := HOW.out
                rw [List.take_of_length_le (by rw [eholesOf_len, HMM.out]; exact Nat.le_refl _)] at this
                exact this
            have HN := Lib.hid hnew
            clear hnew hrun hset
            go_wp2_with fail
            go_roundw
            case rel => exact ⟨_, HN.out⟩
            case measure =>
              have h1 := HM.out
              rw [HQ.out, eleft_app] at h1
              simp only [eleft, List.map_cons, List.map_nil, List.sum_cons, List.sum_nil] at h1
              refine Nat.lt_of_lt_of_le (Nat.lt_of_le_of_lt (least_of HN.out).2 ?_) (Nat.le_of_eq h1)
              simp only [eleft]
              omega
      | some ya =>
        have hTy : TyV wo.heap.size wo y6 (slv (some ya, yu2, yu3)) := HV.out.1.1.keep HB.out.size fun _ _ _ => rfl
        have hc := copy_any wo y3 y4 (some ya, yu2, yu3) y6 hTy hty
        dsimp only [tyVal, slv] at hc
        have HC := Lib.hid hc
        clear hc hTy
        go_wp2_with fail
        refine HC.out.mono ?_
        rintro e wB ⟨⟨v1, v2, v3⟩, rfl, hb2, hf2⟩
        have hTB : isT 29 (w.heap.size + 1) wB hB_ := (KeepT.of_below hb2).isT HT.out
        have tB : ETch 29 24 (w.heap.size + 1) w.heap.size ⟨hB_, hO, ⟨y0, y1, y2, y3, y4, (some ya, yu2, yu3), y6, (p1, p2, p3), y8, y9⟩, hps_⟩ wo wB := ETch.of_below hb2 HB.out.size
        have nB : NdAt wB hB_ hO ⟨y0, y1, y2, y3, y4, (some ya, yu2, yu3), y6, (p1, p2, p3), y8, y9⟩ := HND.out.below hb2 hlt
        have ownB := own_below HO.out hb2
        obtain ⟨q0, q1, q2, q3, q4, q5, q6, q7, q8⟩ := nB
        dsimp only [slv] at q5 q6
        have hfzB : ∀ off, wB.frozen? ⟨hB_, off, none⟩ = false := fun off => by
          obtain ⟨_, cs, hcs⟩ := hTB
          exact frozen_cells hcs off
        have z3 := hfzB (hO + 3)
        have z4 := hfzB (hO + 4)
        have z5 := hfzB (hO + 5)
        obtain ⟨wA, hwA⟩ : ∃ wA, ((wB.setCell ⟨hB_, hO + 3, none⟩ (.int .i64 y3)).setCell ⟨hB_, hO + 4, none⟩ (.int .i64 y4)).setCell ⟨hB_, hO + 5, none⟩ (.slice v1 v2 v3) = wA := ⟨_, rfl⟩
        have tA : ETch 29 24 (w.heap.size + 1) w.heap.size ⟨hB_, hO, ⟨y0, y1, y2, y3, y4, (some ya, yu2, yu3), y6, (p1, p2, p3), y8, y9⟩, hps_⟩ wB wA := by
          have s1 := ETch.set (T24 := 24) (h := ⟨hB_, hO, ⟨y0, y1, y2, y3, y4, (some ya, yu2, yu3), y6, (p1, p2, p3), y8, y9⟩, hps_⟩) (B := w.heap.size) (by decide) 3 (by omega) hTB hbB (.int .i64 y3)
          have s2 := ETch.set (T24 := 24) (h := ⟨hB_, hO, ⟨y0, y1, y2, y3, y4, (some ya, yu2, yu3), y6, (p1, p2, p3), y8, y9⟩, hps_⟩) (B := w.heap.size) (by decide) 4 (by omega) (s1.kept _ hTB) hbB (.int .i64 y4)
          have s3 := ETch.set (T24 := 24) (h := ⟨hB_, hO, ⟨y0, y1, y2, y3, y4, (some ya, yu2, yu3), y6, (p1, p2, p3), y8, y9⟩, hps_⟩) (B := w.heap.size) (by decide) 5 (by omega) (s2.kept _ (s1.kept _ hTB)) hbB (.slice v1 v2 v3)
          rw [← hwA]
          exact (s1.trans s2).trans s3
        have nA : NdAt wA hB_ hO ⟨y0, y1, y2, y3, y4, (v1, v2, v3), y6, (p1, p2, p3), y8, y9⟩ := by
          have oth : ∀ i, i ≠ 3 → i ≠ 4 → i ≠ 5 → wA.cell? ⟨hB_, hO + i, none⟩ = wB.cell? ⟨hB_, hO + i, none⟩ := fun i h3 h4 h5 => by
            rw [← hwA, World.cell?_setCell_other _ _ _ _ (by intro e; injection e with _ e; omega), World.cell?_setCell_other _ _ _ _ (by intro e; injection e with _ e; omega), World.cell?_setCell_other _ _ _ _ (by intro e; injection e with _ e; omega)]
          have n45 : (⟨hB_, hO + 5, none⟩ : Addr) ≠ ⟨hB_, hO + 4, none⟩ := by intro e; injection e with _ e; omega
          have n35 : (⟨hB_, hO + 5, none⟩ : Addr) ≠ ⟨hB_, hO + 3, none⟩ := by intro e; injection e with _ e; omega
          have n34 : (⟨hB_, hO + 4, none⟩ : Addr) ≠ ⟨hB_, hO + 3, none⟩ := by intro e; injection e with _ e; omega
          refine ⟨(oth 0 (by omega) (by omega) (by omega)).trans q0, (oth 1 (by omega) (by omega) (by omega)).trans q1, (oth 2 (by omega) (by omega) (by omega)).trans q2, ?_, ?_, ?_, (oth 6 (by omega) (by omega) (by omega)).trans q6, (oth 7 (by omega) (by omega) (by omega)).trans q7, (oth 8 (by omega) (by omega) (by omega)).trans q8⟩
          · rw [← hwA, World.cell?_setCell_other _ _ _ _ n35, World.cell?_setCell_other _ _ _ _ n34]
            exact World.cell?_setCell_same _ _ _ q3
          · rw [← hwA, World.cell?_setCell_other _ _ _ _ n45]
            exact World.cell?_setCell_same _ _ _ ((World.cell?_setCell_other _ _ _ _ n34.symm).trans q4)
          · rw [← hwA]
            exact World.cell?_setCell_same _ _ _ ((World.cell?_setCell_other _ _ _ _ n45.symm).trans ((World.cell?_setCell_other _ _ _ _ n35.symm).trans q5))
        have fA : FreshT 24 w.heap.size wA idn y6 (v1, v2, v3) := (hf2.mono HB.out.size).to tA.below.size fun b cs _ hl => tA.ty b cs hl
        have ownA : wA.ownsRow w.heap.size 53 1 (.slice (some ⟨g, 0, none⟩) q cp) q (eptrs Hq) := by
          have hT1 : ∃ cs, wB.heap[hB_]? = some (Obj.cells cs 29) := hTB.2
          have s1 := ETch.set (T24 := 24) (h := ⟨hB_, hO, ⟨y0, y1, y2, y3, y4, (some ya, yu2, yu3), y6, (p1, p2, p3), y8, y9⟩, hps_⟩) (B := w.heap.size) (by decide) 3 (by omega) hTB hbB (.int .i64 y3)
          have s2 := ETch.set (T24 := 24) (h := ⟨hB_, hO, ⟨y0, y1, y2, y3, y4, (some ya, yu2, yu3), y6, (p1, p2, p3), y8, y9⟩, hps_⟩) (B := w.heap.size) (by decide) 4 (by omega) (s1.kept _ hTB) hbB (.int .i64 y4)
          rw [← hwA]
          exact eown_touch (eown_touch (eown_touch ownB hT1 (by decide) _ _) (s1.kept _ hTB).2 (by decide) _ _) (s2.kept _ (s1.kept _ hTB)).2 (by decide) _ _
        have a6 : wA.cell? ⟨hB_, hO + 6, none⟩ = some (.slice p1 p2 p3) := nA.2.2.2.2.2.2.1
        obtain ⟨A1, c1, c, w1, w2, hrun, hset, hsome, hfr, hc2, hA1, HF⟩ := MID.out wA (v1, v2, v3) (tB.trans tA) (Nat.le_trans hb2.size tA.below.size) nA fA ownA
        have HA1 := Lib.hid hA1
        have HBB := Lib.hid hb2
        clear hA1 tA tB nA fA ownA ownB hTB hfzB hf2 hb2 d0 d1 d2 d3 d4 d5 d6 d7 d8
        go_wp2_with fail
        go_loopw [3, 48] (fun t3 t48 w5 => ∃ j : Nat, j ≤ m ∧ t48 = .int .i64 j ∧ w5.ownsRow w.heap.size 53 1 t3 (q + j) (eptrs Hq ++ eptrs ((eholesOf c 0 hps_).take j)) ∧ KeepT 29 w2 w5 ∧ KeepT 24 w2 w5 ∧ Below w.heap.size w2 w5) (fun _ t _ => m - (intOf t).toNat)
        case atStart => exact ⟨0, Nat.zero_le _, rfl, by simpa [eptrs] using HF.out.2.2.2.2.2, KeepT.refl _ _, KeepT.refl _ _, Below.refl _ _⟩
        case round =>
          obtain ⟨j, hj, rfl, hown, hkt, hky, hbw⟩ := hrel
          have hT2 := HF.out.1.kept _ HT.out
          have hx2 : wr.cell? ⟨hB_, hO + 6, none⟩ = some (.slice A1 m c1) := (hkt.cell hT2 _).trans hc2
          have HOW := Lib.hid hown
          have HKT := Lib.hid (And.intro hkt hky)
          have HBW := Lib.hid hbw
          clear hown hkt hky hbw hT2
          by_cases hjl : j < m
          · have hA2 := HA1.out (by omega)
            subst hA2
            have hpt := eptrs_take c hps_ 0 j (by rw [HMM.out]; exact hjl)
            rw [Nat.zero_add] at hpt
            have hwz := Nat.le_trans HB.out.size (Nat.le_trans HF.out.1.below.size HBW.out.size)
            obtain ⟨W1, hW1⟩ : ∃ W1, W1 = wr.alloc (.cells #[.pointer (some ⟨c, j * 9, none⟩)] 53) := ⟨_, rfl⟩
            have rd1 : Rd W1 1 (.slice (some ⟨wr.heap.size, 0, none⟩) 1 1) 1 [.pointer (some ⟨c, j * 9, none⟩)] := by
              rw [hW1]; exact rd_new wr [.pointer (some ⟨c, j * 9, none⟩)] 53 1 1 rfl (by unfold maxLen; omega)
            have own1 := HOW.out.alloc (.cells #[.pointer (some ⟨c, j * 9, none⟩)] 53)
            rw [← hW1] at own1
            have hbW : Below w.heap.size wr W1 := by rw [hW1]; exact (Below.refl _ _).alloc hwz _
            obtain ⟨i0, hi0, hz0', hz1', hz2'⟩ := info_parts eptrInfo
            obtain ⟨v1, w7, hrun7, hown7, hg7, _⟩ := run_append_rd (P := Try.prog) W1 w.heap.size 54 54 53 i0 _ 1 8 Try.underlying54 hi0 hz0' hz1' hz2' rfl (by omega) u3 _ _ own1 _ 1 _ rd1 (by simp [Value.oneCell']) (by unfold maxLen; omega) (by omega) (Nat.le_trans hwz hbW.size)
            have k1 : KeepT 29 wr W1 := by rw [hW1]; exact (KeepT.refl _ _).alloc _
            have k1' : KeepT 24 wr W1 := by rw [hW1]; exact (KeepT.refl _ _).alloc _
            have k7 : KeepT 29 w2 w7 := (HKT.out.1.trans k1).trans (KeepT.grown hg7 (row_not own1 (by decide)))
            have k7' : KeepT 24 w2 w7 := (HKT.out.2.trans k1').trans (KeepT.grown hg7 (row_not own1 (by decide)))
            have b7 : Below w.heap.size w2 w7 := HBW.out.trans (hbW.trans ((Below.refl _ _).grown hg7 (Nat.le_trans hwz hbW.size) (fun k e => (own1.lt k e).1)))
            have hrun8 : (app_ #[54, 54] 54 #[u3, .slice (some ⟨wr.heap.size, 0, none⟩) 1 1]).run Try.prog W1 = .ok v1 w7 := hrun7
            rw [hW1] at hrun8
            rw [List.append_assoc, ← hpt] at hown7
            have HO7 := Lib.hid hown7
            have HK7 := Lib.hid (And.intro k7 k7')
            have HB7 := Lib.hid b7
            clear hrun7 hown7 hg7 own1 rd1 hbW hW1 k1 k1' k7 k7' b7 hpt hwz hrun hset
            go_wp2_with fail
            go_roundw
            case rel => exact ⟨j + 1, by omega, by go_num, HO7.out, HK7.out.1, HK7.out.2, HB7.out⟩
            case measure => simp [intOf]; omega
          · obtain rfl : j = m := by omega
            have hnew : ECh 29 24 53 w (w.heap.size + 1) w.heap.size X ps u3 wr (eleft Hq + hps_.size) := by
              obtain ⟨t2, n2, f2, hcl, hu, _⟩ := HF.out
              have hT2 := t2.kept _ HT.out
              refine ech_step (c := c) (m := j) (tu2 := (v1, v2, v3)) (u2 := (A1, j, c1)) HAT.out HAP.out HWD.out HB.out HRT.out (by omega) HRB.out HSM.out (t2.trans (ETch.keep HKT.out.1 HKT.out.2 HBW.out)) HMM.out hcl (n2.to fun i _ => HKT.out.1.cell hT2 _) (f2.to HKT.out.1.1 fun b cs _ hl => HKT.out.2.2 b cs hl) ?_ ?_
              · rcases hu with h0 | ⟨hp, ⟨cs, hcs⟩, hcc, hh⟩
                · exact .inl h0
                · exact .inr ⟨hp, ⟨cs, HKT.out.1.2 _ _ hcs⟩, fun i u hi => (World.cell?_of_block ((HKT.out.1.2 _ _ hcs).trans hcs.symm)).trans (hcc i u hi), hh⟩
              · rw [HQ.out]
                have := HOW.out
                rw [List.take_of_length_le (by rw [eholesOf_len, HMM.out]; exact Nat.le_refl _)] at this
                exact this
            have HN := Lib.hid hnew
            clear hnew hrun hset
            go_wp2_with fail
            go_roundw
            case rel => exact ⟨_, HN.out⟩
            case measure =>
              have h1 := HM.out
              rw [HQ.out, eleft_app] at h1
              simp only [eleft, List.map_cons, List.map_nil, List.sum_cons, List.sum_nil] at h1
              refine Nat.lt_of_lt_of_le (Nat.lt_of_le_of_lt (least_of HN.out).2 ?_) (Nat.le_of_eq h1)
              simp only [eleft]
              omega
    · obtain ⟨A, c, rfl, _, _⟩ := own_form hown
      obtain ⟨y, gg, hyI, hgI, hnY, hTyY, hTeY⟩ := hwd wr (Nat.le_refl _) (fun h hh => by cases hh) (fun _ _ _ _ _ => rfl) (fun _ _ _ h => h)
      obtain ⟨y0, y1, y2, y3, y4, ⟨yu1, yu2, yu3⟩, y6, ⟨p1, p2, p3⟩, y8, y9⟩ := y
      obtain ⟨c0, c1, c2, c3, c4, c5, c6, c7, c8⟩ := hnY
      dsimp only [slv] at c5 c6
      simp only [Nat.zero_add] at c0 c1 c2 c3 c4 c5 c6 c7 c8
      have r0 : wr.cell? ⟨w.heap.size + 1, 0, none⟩ = some (.int .i64 0) := cell_of_row wr (w.heap.size + 1) 0 _ _ (0, 0) hrt
      have z0 : wr.frozen? ⟨w.heap.size + 1, 0, none⟩ = false := frozen_cells hrt 0
      have r1 : wr.cell? ⟨w.heap.size + 1, 1, none⟩ = some (.string ⟨#[]⟩) := cell_of_row wr (w.heap.size + 1) 1 _ _ (0, 0) hrt
      have z1 : wr.frozen? ⟨w.heap.size + 1, 1, none⟩ = false := frozen_cells hrt 1
      have r2 : wr.cell? ⟨w.heap.size + 1, 2, none⟩ = some (.int .i64 0) := cell_of_row wr (w.heap.size + 1) 2 _ _ (0, 0) hrt
      have z2 : wr.frozen? ⟨w.heap.size + 1, 2, none⟩ = false := frozen_cells hrt 2
      have r3 : wr.cell? ⟨w.heap.size + 1, 3, none⟩ = some (.int .i64 0) := cell_of_row wr (w.heap.size + 1) 3 _ _ (0, 0) hrt
      have z3 : wr.frozen? ⟨w.heap.size + 1, 3, none⟩ = false := frozen_cells hrt 3
      have r4 : wr.cell? ⟨w.heap.size + 1, 4, none⟩ = some (.int .i64 0) := cell_of_row wr (w.heap.size + 1) 4 _ _ (0, 0) hrt
      have z4 : wr.frozen? ⟨w.heap.size + 1, 4, none⟩ = false := frozen_cells hrt 4
      have r5 : wr.cell? ⟨w.heap.size + 1, 5, none⟩ = some (.slice none 0 0) := cell_of_row wr (w.heap.size + 1) 5 _ _ (0, 0) hrt
      have z5 : wr.frozen? ⟨w.heap.size + 1, 5, none⟩ = false := frozen_cells hrt 5
      have r6 : wr.cell? ⟨w.heap.size + 1, 6, none⟩ = some (.slice none 0 0) := cell_of_row wr (w.heap.size + 1) 6 _ _ (0, 0) hrt
      have z6 : wr.frozen? ⟨w.heap.size + 1, 6, none⟩ = false := frozen_cells hrt 6
      have r7 : wr.cell? ⟨w.heap.size + 1, 7, none⟩ = some (.int .i64 0) := cell_of_row wr (w.heap.size + 1) 7 _ _ (0, 0) hrt
      have z7 : wr.frozen? ⟨w.heap.size + 1, 7, none⟩ = false := frozen_cells hrt 7
      have r8 : wr.cell? ⟨w.heap.size + 1, 8, none⟩ = some (.int .i64 0) := cell_of_row wr (w.heap.size + 1) 8 _ _ (0, 0) hrt
      have z8 : wr.frozen? ⟨w.heap.size + 1, 8, none⟩ = false := frozen_cells hrt 8
      obtain ⟨WF, hWF⟩ : ∃ WF, (((((((((wr.setCell ⟨w.heap.size + 1, 0, none⟩ (.int .i64 y0)).setCell ⟨w.heap.size + 1, 1, none⟩ (.string y1)).setCell ⟨w.heap.size + 1, 2, none⟩ (.int .i64 y2)).setCell ⟨w.heap.size + 1, 3, none⟩ (.int .i64 y3)).setCell ⟨w.heap.size + 1, 4, none⟩ (.int .i64 y4)).setCell ⟨w.heap.size + 1, 5, none⟩ (.slice yu1 yu2 yu3)).setCell ⟨w.heap.size + 1, 6, none⟩ (.slice p1 p2 p3)).setCell ⟨w.heap.size + 1, 7, none⟩ (.int .i64 y8)).setCell ⟨w.heap.size + 1, 8, none⟩ (.int .i64 y9)) = WF := ⟨_, rfl⟩
      have hwf := set9_block (g := w.heap.size + 1) ⟨y0, y1, y2, y3, y4, (yu1, yu2, yu3), y6, (p1, p2, p3), y8, y9⟩ hrt
      dsimp only [slv] at hwf
      rw [hWF] at hwf
      have nF : NdAt WF (w.heap.size + 1) 0 ⟨y0, y1, y2, y3, y4, (yu1, yu2, yu3), y6, (p1, p2, p3), y8, y9⟩ := NdAt.of_cells fun j u hu => by
        rw [Nat.zero_add, cell_of_row WF (w.heap.size + 1) j _ _ (0, 0) hwf.1]
        simpa using hu
      have hrl := (Array.getElem?_eq_some_iff.1 hrt).1
      have HWD := Lib.hid hwd
      have HBF := Lib.hid (And.intro hwf (And.intro hb hrb))
      have HNF := Lib.hid (load_te nF)
      have HNI := Lib.hid hyI
      have HRT := Lib.hid hrt
      clear hwd hown hat hap hrt hrb hwf nF hb hyI hgI hTyY hTeY
      dsimp only [List.length_nil]
      go_wp2_with fail
      have HNF' := HNF.out
      refine bodyPost_ret (results_box rfl _ _ _ _ rfl HNF') rfl ?_
      obtain ⟨⟨hF1, hF2, hF3, hF4⟩, hb, hrb⟩ := HBF.out
      obtain ⟨k0, k1, k2, k3, k4, _, k6, k7⟩ := HNI.out
      have hX := HX.out
      subst hX
      dsimp only at k0 k1 k2 k3 k4 k6 k7
      subst k0; subst k1; subst k2; subst k3; subst k4; subst k6; subst k7
      refine ⟨(yu1, yu2, yu3), (p1, p2, p3), rfl, hb.trans (hF4.mono (by omega)), fun W hWs hWc => ?_⟩
      have hWb : ∀ (b : Nat) (cs : Array Value) (T : TypeId), w.heap.size ≤ b → b ≠ w.heap.size + 1 → wr.heap[b]? = some (Obj.cells cs T) → W.heap[b]? = wr.heap[b]? := fun b cs T h1 h3 h2 => (hWc b _ h1 ((hF3 b h3).trans h2) rfl).trans h2.symm
      obtain ⟨y', g', hyI', hgI', hnY', hTy', hTe'⟩ := HWD.out W (by omega) (fun h hh => by cases hh) (fun b off hB hT _ => by obtain ⟨hne, cs, hcs⟩ := hT; exact World.cell?_of_block (hWb b cs _ hB hne hcs)) (fun b cs hB hl => (hWb b cs _ hB (fun e => by
        subst e
        rw [HRT.out] at hl
        injection hl with hl
        injection hl with _ h2 _
        exact absurd h2 (by decide)) hl).trans hl)
      obtain ⟨_, csb, hcsb⟩ := hrb
      have hrb' := hWb w.heap.size csb _ (Nat.le_refl _) (by omega) hcsb
      have e5 : some (slv y'.tu) = some (.slice yu1 yu2 yu3) := by rw [← hnY'.2.2.2.2.2.1, ← c5, Nat.zero_add]; exact World.cell?_of_block hrb'
      have e6 : some (slv y'.u) = some (.slice p1 p2 p3) := by rw [← hnY'.2.2.2.2.2.2.1, ← c6, Nat.zero_add]; exact World.cell?_of_block hrb'
      injection e5 with e5
      injection e6 with e6
      rw [e5] at hTy'
      rw [e6] at hTe'
      exact ⟨y'.ty, g', hyI'.2.2.2.2.2.1, hgI', hTy', hTe'⟩
end Go.Proofs.Ytfoangiphbmipaa
