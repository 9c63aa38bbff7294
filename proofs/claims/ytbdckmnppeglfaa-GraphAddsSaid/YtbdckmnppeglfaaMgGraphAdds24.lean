/- Texts of one proof, one behind the other. -/
import Derived.Test.YtbdckmnppeglfaaMgGraphAdds22
import Derived.Test.YtbdckmnppeglfaaMgGraphAdds23
import Derived.Test.YtbdckmnppeglfaaMgGraphAdds14
import Derived.Test.YtbdckmnppeglfaaMgGraphAdds18
/- (*Graph).Add. -/
namespace Go.Proofs.Ytbdckmnppeglfaa
open Go.RowKit Go.Shelf
set_option maxRecDepth 100000
theorem wf_pre {F : Fo} (h : F.wf) : ∀ x ∈ F.pre, (Lit.int .i64 x.2.1).wf = true := by
  induction F with
  | nil => intro x hx; simp [Fo.pre] at hx
  | cons k n u ps r i1 i2 =>
    intro x hx
    simp only [Fo.pre, List.mem_cons, List.mem_append] at hx
    rcases hx with rfl | hx | hx
    · exact h.1
    · exact i1 h.2.1 x hx
    · exact i2 h.2.2 x hx
theorem add_wrong (w : World) (g : Nat) (BT : Nat) (hBT : BT ≤ w.heap.size) (k n : Int) (u : Sl) (ps : Fo) (hps : TyV BT w ps (slv u)) (hs : ps.size < 1000000) (hr : allAlone (Fo.cons k n u ps .nil).pre = false) :
    Calls Try.prog 25 #[.pointer (some ⟨g, 0, none⟩), tyVal k n (slv u)] w fun e w' => e = .returned (.tuple #[.int .i64 0, .int .i64 1]) ∧ Below w.heap.size w w' := by
  obtain ⟨u1, u2, u3⟩ := u
  obtain ⟨w1, hw1⟩ : ∃ w1, (w.alloc (.cells #[.pointer (some ⟨g, 0, none⟩)] 25)).alloc (.cells #[.int .i64 k, .int .i64 n, .slice u1 u2 u3] 38) = w1 := ⟨_, rfl⟩
  have hb1 : Below w.heap.size w w1 := by rw [← hw1]; exact ((Below.refl _ _).alloc (Nat.le_refl _) _).alloc (by simp) _
  have hs1 : w1.heap.size = w.heap.size + 2 := by rw [← hw1]; simp
  have hR := right_any w1 BT k n (u1, u2, u3) ps (by omega) (hps.below (hb1.mono hBT)) hs
  rw [hr] at hR
  have HR := Lib.hid hR
  dsimp only [tyVal, slv]
  have a0 : w1.heap[w.heap.size]? = some (.cells #[.pointer (some ⟨g, 0, none⟩)] 25) := by rw [← hw1]; exact (Below.heap_alloc _ _ _ (by simp)).trans (heap_alloc_new _ _)
  have hB1 : w1.heap[w.heap.size + 1]? = some (.cells #[.int .i64 k, .int .i64 n, .slice u1 u2 u3] 38) := by rw [← hw1]; have h := heap_alloc_new (w.alloc (.cells #[.pointer (some ⟨g, 0, none⟩)] 25)) (.cells #[.int .i64 k, .int .i64 n, .slice u1 u2 u3] 38); simp only [World.size_alloc] at h; exact h
  have b0 : w1.cell? ⟨w.heap.size, 0, none⟩ = some (.pointer (some ⟨g, 0, none⟩)) := cell_of_row w1 _ 0 _ _ (0, 0) a0
  have c0 : w1.cell? ⟨w.heap.size + 1, 0, none⟩ = some (.int .i64 k) := cell_of_row w1 _ 0 _ _ (0, 0) hB1
  have c1 : w1.cell? ⟨w.heap.size + 1, 1, none⟩ = some (.int .i64 n) := cell_of_row w1 _ 1 _ _ (0, 0) hB1
  have c2 : w1.cell? ⟨w.heap.size + 1, 2, none⟩ = some (.slice u1 u2 u3) := cell_of_row w1 _ 2 _ _ (0, 0) hB1
  have HB1 := Lib.hid hb1
  clear hps hR hr hB1 a0 hb1
  go_enter Try.func25, Try.ntmps25
  go_wp2_with fail
  refine HR.out.mono ?_
  rintro e w2 ⟨rfl, hb2⟩
  go_wp2_with fail
  exact bodyPost_ret (results_tmp2 rfl _ _ _) rfl ⟨rfl, HB1.out.trans (hb2.mono (by omega))⟩
set_option maxHeartbeats 4000000 in
theorem add_graph (w : World) (B g mb : Nat) (v : Value) (L : List Nd) (G : List Gn) (hG : GrM B w g v mb L G) (hB : B ≤ w.heap.size) (hGI : GI G) (BT : Nat) (hBT : BT ≤ w.heap.size) (k n : Int) (u : Sl) (ps : Fo) (hps : TyV BT w ps (slv u)) (hwf : (Fo.cons k n u ps .nil).wf)
    (hs : G.length + (1 + ps.size) ≤ 500000) (hr : allAlone (Fo.cons k n u ps .nil).pre = true) :
    Calls Try.prog 25 #[.pointer (some ⟨g, 0, none⟩), tyVal k n (slv u)] w fun e w' => ∃ v' E, e = .returned (.tuple #[.int .i64 ((gadd1 G k n ps).2 : Nat), .int .i64 0]) ∧ GrM B w' g v' mb (L ++ E) (gadd1 G k n ps).1 ∧ Chg w w' g mb v v' ∧ ∀ x ∈ E, ∀ b, (slv x.2.2.2).ownBlock = some b → w.heap.size ≤ b := by
  obtain ⟨u1, u2, u3⟩ := u
  obtain ⟨w1, hw1⟩ : ∃ w1, (w.alloc (.cells #[.pointer (some ⟨g, 0, none⟩)] 25)).alloc (.cells #[.int .i64 k, .int .i64 n, .slice u1 u2 u3] 38) = w1 := ⟨_, rfl⟩
  have hb1 : Below w.heap.size w w1 := by rw [← hw1]; exact ((Below.refl _ _).alloc (Nat.le_refl _) _).alloc (by simp) _
  have hs1 : w1.heap.size = w.heap.size + 2 := by rw [← hw1]; simp
  have hR := right_any w1 BT k n (u1, u2, u3) ps (by omega) (hps.below (hb1.mono hBT)) (by omega)
  rw [hr] at hR
  have HR := Lib.hid hR
  obtain ⟨F, hF⟩ : ∃ F, Fo.cons k n (u1, u2, u3) ps .nil = F := ⟨_, rfl⟩
  have hlo : LenOk F := by rw [← hF]; exact ⟨TyV.len (u := (u1, u2, u3)) hps, (TyV.list hps).lenOk, trivial⟩
  have hvo : Vok F := vok_of (by rw [← hF]; exact hr) hlo
  have hFs : F.size = 1 + ps.size := by rw [← hF]; simp [Fo.size]
  have hfin : (grO F).reverse.foldl gstep (G, []) = ((gadd1 G k n ps).1, [(gadd1 G k n ps).2]) := by
    rw [gfold F G [] hlo, ← hF, gadd_cons, gadd_nil]; rfl
  dsimp only [tyVal, slv]
  have a0 : w1.heap[w.heap.size]? = some (.cells #[.pointer (some ⟨g, 0, none⟩)] 25) := by rw [← hw1]; exact (Below.heap_alloc _ _ _ (by simp)).trans (heap_alloc_new _ _)
  have hB1 : w1.heap[w.heap.size + 1]? = some (.cells #[.int .i64 k, .int .i64 n, .slice u1 u2 u3] 38) := by rw [← hw1]; have h := heap_alloc_new (w.alloc (.cells #[.pointer (some ⟨g, 0, none⟩)] 25)) (.cells #[.int .i64 k, .int .i64 n, .slice u1 u2 u3] 38); simp only [World.size_alloc] at h; exact h
  have b0 : w1.cell? ⟨w.heap.size, 0, none⟩ = some (.pointer (some ⟨g, 0, none⟩)) := cell_of_row w1 _ 0 _ _ (0, 0) a0
  have c0 : w1.cell? ⟨w.heap.size + 1, 0, none⟩ = some (.int .i64 k) := cell_of_row w1 _ 0 _ _ (0, 0) hB1
  have c1 : w1.cell? ⟨w.heap.size + 1, 1, none⟩ = some (.int .i64 n) := cell_of_row w1 _ 1 _ _ (0, 0) hB1
  have c2 : w1.cell? ⟨w.heap.size + 1, 2, none⟩ = some (.slice u1 u2 u3) := cell_of_row w1 _ 2 _ _ (0, 0) hB1
  have HB1 := Lib.hid hb1
  have HX1 := Lib.hid hB1
  have HA0 := Lib.hid a0
  have HG := Lib.hid hG
  have HPS := Lib.hid hps
  have HWF := Lib.hid (show F.wf by rw [← hF]; exact hwf)
  have HGI := Lib.hid hGI
  have HF := Lib.hid hF
  have HFI := Lib.hid hfin
  have HLV := Lib.hid (And.intro hlo hvo)
  have HSZ := Lib.hid (And.intro hs (And.intro hFs (And.intro hB hBT)))
  clear hps hR hr hB1 a0 hb1 hG hwf hGI hF hfin hlo hvo hs hFs
  go_enter Try.func25, Try.ntmps25
  go_wp2_with fail
  refine HR.out.mono ?_
  rintro e w2 ⟨rfl, hb2⟩
  have y0 : w2.cell? ⟨w.heap.size + 1, 0, none⟩ = some (.int .i64 k) := (hb2.cell (p := ⟨w.heap.size + 1, 0, none⟩) (by simp only; omega)).trans c0
  have y1 : w2.cell? ⟨w.heap.size + 1, 1, none⟩ = some (.int .i64 n) := (hb2.cell (p := ⟨w.heap.size + 1, 1, none⟩) (by simp only; omega)).trans c1
  have y2 : w2.cell? ⟨w.heap.size + 1, 2, none⟩ = some (.slice u1 u2 u3) := (hb2.cell (p := ⟨w.heap.size + 1, 2, none⟩) (by simp only; omega)).trans c2
  have x0 : w2.cell? ⟨w.heap.size, 0, none⟩ = some (.pointer (some ⟨g, 0, none⟩)) := (hb2.cell (p := ⟨w.heap.size, 0, none⟩) (by simp only; omega)).trans b0
  have hz2 := hb2.size
  obtain ⟨w3, hw3⟩ : ∃ w3, w2.alloc (.cells #[.slice none 0 0] 28) = w3 := ⟨_, rfl⟩
  have hb3 : Below w2.heap.size w2 w3 := by rw [← hw3]; exact (Below.refl _ _).alloc (Nat.le_refl _) _
  have hs3 : w3.heap.size = w2.heap.size + 1 := by rw [← hw3]; simp
  have hT3 : w3.heap[w2.heap.size]? = some (.cells #[.slice none 0 0] 28) := by rw [← hw3]; exact heap_alloc_new _ _
  have q0 : w3.cell? ⟨w.heap.size + 1, 0, none⟩ = some (.int .i64 k) := (hb3.cell (p := ⟨w.heap.size + 1, 0, none⟩) (by simp only; omega)).trans y0
  have q1 : w3.cell? ⟨w.heap.size + 1, 1, none⟩ = some (.int .i64 n) := (hb3.cell (p := ⟨w.heap.size + 1, 1, none⟩) (by simp only; omega)).trans y1
  have q2 : w3.cell? ⟨w.heap.size + 1, 2, none⟩ = some (.slice u1 u2 u3) := (hb3.cell (p := ⟨w.heap.size + 1, 2, none⟩) (by simp only; omega)).trans y2
  have hG := HG.out
  have hb0 : Below w.heap.size w w3 := HB1.out.trans ((hb2.trans (hb3.mono hz2)).mono (by omega))
  have hG3 : GrM B w3 g v mb L G := hG.below hb0
  have hgl := hG.lt
  have hvo : ∀ b, v.ownBlock = some b → b < w.heap.size := fun b hb => (hG.row.lt b hb).2
  obtain ⟨hs, hFs, -, -⟩ := HSZ.out
  have hg3 : w3.heap[w.heap.size]? = some (.cells #[.pointer (some ⟨g, 0, none⟩)] 25) := (hb3.block _ (by omega)).trans ((hb2.block _ (by omega)).trans HA0.out)
  have hFu := HF.out
  have hadd : ∀ (M : Nat) (pre : List Tr) (x : Tr) (W : World), w3.heap.size ≤ M → M ≤ W.heap.size → AddI w3 B g mb w2.heap.size v L G M pre W → Below B w3 W → (∃ r, pre ++ x :: r = (grO F).reverse) →
      Calls Try.prog 61 (#[trV x] ++ #[.pointer (some ⟨w2.heap.size, 0, none⟩), .pointer (some ⟨w.heap.size, 0, none⟩)]) W fun e W' => (∃ v, e = .returned v) ∧ AddI w3 B g mb w2.heap.size v L G M (pre ++ [x]) W' ∧ Bt3 B w3.heap.size M W W' := by
    rintro M pre x W hM hMW hI hBW ⟨r, hr⟩
    have hlen : pre.length ≤ F.size := by
      have h := congrArg List.length hr
      rw [List.length_append, List.length_reverse, grO_size, List.length_cons] at h
      omega
    have hfl := fold_len pre (G, [])
    refine add1_any w3 B g mb w2.heap.size w.heap.size v L G hg3 ⟨by omega, by omega, by omega, fun e => by have := hvo _ e; omega⟩ (by omega) (by omega) ⟨by omega, by omega⟩ ⟨by omega, by omega⟩ M pre x W hM hMW hI (by omega) F.size
      (visit_ok F G [] pre x r HGI.out HLV.out.2 HLV.out.1 (fun p hp => by cases hp) hr) (by omega) (wf_pre HWF.out x (grO_pre F x ?_)) ?_ ?_
    · have hx : x ∈ (grO F).reverse := by rw [← hr]; simp
      exact List.mem_reverse.1 hx
    · have := hfl.1; dsimp only at this; omega
    · have := hfl.2; dsimp only [List.length_nil] at this; omega
  have hcall := each_graph w3 B (by omega) 61 #[.pointer (some ⟨w2.heap.size, 0, none⟩), .pointer (some ⟨w.heap.size, 0, none⟩)] (enters_of Try.func61 (by kernel_rfl) rfl)
    BT (by omega) k n (u1, u2, u3) ps (HPS.out.below (hb0.mono hBT)) (by omega) (AddI w3 B g mb w2.heap.size v L G)
    (fun M pre W W' hM h hi => AddI.its (by omega) hM h hi)
    (fun W hW => ⟨v, .slice none 0 0, [], by rw [List.append_nil]; exact hG3.below hW, (hW.block _ (by omega)).trans hT3, World.ownsRow_nil _ _ _ _, (fun x hx b hb e => by cases e), (fun b hb => .inl (by have := hvo b hb; omega)), (fun x hx => by cases hx), ⟨hW.os, hW.tape, hW.output, hW.size, fun b hb _ _ _ _ => hW.block b hb, .inl rfl⟩⟩)
    (by rw [hFu]; exact hadd)
  rw [hFu] at hcall
  dsimp only [tyVal, slv] at hcall
  have HC := Lib.hid hcall
  have HB0 := Lib.hid hb0
  have HT3 := Lib.hid hT3
  clear b0 c0 c1 c2 hb2 hb3 hT3 y0 y1 y2 x0 hcall hadd hG hG3 hg3 hs hFs hFu
  go_wp2_with fail
  with_reducible refine HC.out.mono ?_
  rintro e w4 ⟨⟨ve, rfl⟩, ⟨M, hM1, hM2, hI⟩, hb4⟩
  unfold AddI at hI
  rw [HFI.out] at hI
  obtain ⟨v', mv, E, hG4, htb4, hmv, hno, hvb, hE, hS⟩ := hI
  obtain ⟨i, hi⟩ : ∃ i : Nat, (gadd1 G k n ps).2 = i := ⟨_, rfl⟩
  rw [hi] at hmv
  have HI := Lib.hid hi
  obtain ⟨a, c, rfl, -, -⟩ := own_shape hmv (by simp)
  have m0 : w4.cell? ⟨a, 0, none⟩ = some (.int .i64 (i : Nat)) := by rw [hmv.cellAt 0 (by simp)]; rfl
  have t0 : w4.cell? ⟨w2.heap.size, 0, none⟩ = some (.slice (some ⟨a, 0, none⟩) 1 c) := cell_of_row w4 _ 0 _ _ (0, 0) htb4
  have hchg : Chg w w4 g mb v v' := ⟨hS.os.trans HB0.out.os, hS.tape.trans HB0.out.tape, hS.output.trans HB0.out.output, by have := hS.size; omega, fun b hb h1 h2 h3 => (hS.block b (by omega) h1 h2 (by omega) h3).trans (HB0.out.block b hb), hS.at_.imp id fun ⟨b, e, hb⟩ => ⟨b, e, by omega⟩⟩
  have HR4 := Lib.hid (And.intro hG4 (And.intro hchg (fun x hx b hb => Nat.le_trans (show w.heap.size ≤ w3.heap.size by omega) (hE x hx b hb) : ∀ x ∈ E, ∀ b, (slv x.2.2.2).ownBlock = some b → w.heap.size ≤ b)))
  clear hG4 htb4 hmv hno hvb hE hS hchg hb4 hi
  go_wp2_with fail
  obtain ⟨r1, r2, r3⟩ := HR4.out
  exact bodyPost_ret (results_tmp2 rfl _ _ _) rfl ⟨v', E, by rw [HI.out]; rfl, r1, r2, r3⟩
end Go.Proofs.Ytbdckmnppeglfaa
/- The answer's Ints. -/
namespace Go.Proofs.Ytbdckmnppeglfaa
open Go.RowKit Go.Shelf

theorem eq_of_takes (a b : List Int) (h : a.length = b.length) (j : Nat) (hj : j < a.length) (hne : a[j] ≠ b[j]) : (a == b) = false := by
  refine beq_eq_false_iff_ne.2 fun e => hne ?_
  subst e
  rfl
set_option maxHeartbeats 1000000 in
set_option maxRecDepth 100000 in
theorem rints_any (a b : List Int) (va vb : Value) (w : World) (hA : Rd w 1 va a.length (ints a)) (hB : Rd w 1 vb b.length (ints b)) (la : a.length ≤ 1000000) (lb : b.length ≤ 1000000) :
    Calls Try.prog 14 #[va, vb] w fun e w' => e = .returned (.bool (a == b)) ∧ Below w.heap.size w w' := by
  obtain ⟨A, c, rfl⟩ := hA.form
  obtain ⟨A', c', rfl⟩ := hB.form
  obtain ⟨q, hq⟩ : ∃ q, a.length = q := ⟨_, rfl⟩
  obtain ⟨q', hq'⟩ : ∃ q', b.length = q' := ⟨_, rfl⟩
  rw [hq] at la ⊢
  rw [hq'] at lb ⊢
  have HA := Lib.hid hA
  have HB := Lib.hid hB
  have HQ := Lib.hid hq
  have HQ' := Lib.hid hq'
  clear hA hB hq hq'
  by_cases hl : q = q'
  · subst hl
    go_enter Try.func14, Try.ntmps14
    go_wp2_with fail
    go_loopw [5] (fun t wr => ∃ j : Nat, j ≤ q ∧ t = .int .i64 j ∧ a.take j = b.take j ∧ Below w.heap.size w wr) (fun t _ => q - (intOf t).toNat)
    case atStart => exact ⟨0, Nat.zero_le _, rfl, by simp, Below.refl _ _⟩
    case round =>
      obtain ⟨j, hj, rfl, hja, hb⟩ := hrel
      have HBW := Lib.hid hb
      have HJA := Lib.hid hja
      clear hja hb
      by_cases hjl : j < q
      · have hjA : j < a.length := by rw [HQ.out]; exact hjl
        have hjB : j < b.length := by rw [HQ'.out]; exact hjl
        obtain ⟨b1, o1, cap1, hv1, _, _, hlt1, hc1⟩ := HA.out.2.resolve_left (by rintro ⟨h, _⟩; omega)
        obtain ⟨b2, o2, cap2, hv2, _, _, hlt2, hc2⟩ := HB.out.2.resolve_left (by rintro ⟨h, _⟩; omega)
        injection hv1 with hA1 _ hcc1
        injection hv2 with hA2 _ hcc2
        subst hA1; subst hcc1; subst hA2; subst hcc2
        obtain ⟨x, hx⟩ : ∃ x, a[j] = x := ⟨_, rfl⟩
        obtain ⟨y, hy⟩ : ∃ y, b[j] = y := ⟨_, rfl⟩
        have c1 : wr.cell? ⟨b1, o1 + j, none⟩ = some (.int .i64 x) := (HBW.out.cell (p := ⟨b1, o1 + j, none⟩) hlt1).trans (hc1 j _ (by rw [ints, List.getElem?_map, List.getElem?_eq_getElem hjA, hx]; rfl))
        have c2 : wr.cell? ⟨b2, o2 + j, none⟩ = some (.int .i64 y) := (HBW.out.cell (p := ⟨b2, o2 + j, none⟩) hlt2).trans (hc2 j _ (by rw [ints, List.getElem?_map, List.getElem?_eq_getElem hjB, hy]; rfl))
        by_cases hxy : x = y
        · have htk : a.take (j + 1) = b.take (j + 1) := by
            rw [← List.take_append_getElem hjA, ← List.take_append_getElem hjB, HJA.out, hx, hy, hxy]
          have HTK := Lib.hid htk
          have f1 : (x != y) = false := by simp [hxy]
          clear htk hx hy hc1 hc2 hxy
          go_wp2_with fail
          go_quiet (fail)
          go_wp2_with fail
          go_roundw
          case rel => exact ⟨j + 1, by omega, by go_num, HTK.out, below_drewN HBW.out _⟩
          case measure => simp [intOf]; omega
        · have f1 : (x != y) = true := bne_iff_ne.2 hxy
          have HE := Lib.hid (eq_of_takes a b (HQ.out.trans HQ'.out.symm) j hjA (by rw [hx, hy]; exact hxy))
          clear hx hy hc1 hc2 hxy
          go_wp2_with fail
          go_quiet (fail)
          go_wp2_with fail
          go_ret
          exact ⟨ret_bool HE.out.symm, below_drewN HBW.out _⟩
      · obtain rfl : j = q := by omega
        have hE : (a == b) = true := by
          have h := HJA.out
          have h1 := HQ.out
          have h2 := HQ'.out
          rw [List.take_of_length_le (by omega), List.take_of_length_le (by omega)] at h
          simp [h]
        have HE := Lib.hid hE
        clear hE
        go_wp2_with fail
        go_ret
        exact ⟨ret_bool HE.out.symm, HBW.out⟩
  · have f1 : ((q : Int) != (q' : Int)) = true := bne_iff_ne.2 (by omega)
    have hE : (a == b) = false := beq_eq_false_iff_ne.2 fun e => hl (by rw [← HQ.out, ← HQ'.out, e])
    have HE := Lib.hid hE
    clear hE hl
    go_enter Try.func14, Try.ntmps14
    go_wp2_with fail
    go_ret
    exact ⟨ret_bool HE.out.symm, Below.refl _ _⟩
end Go.Proofs.Ytbdckmnppeglfaa
