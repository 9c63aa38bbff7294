/- Texts of one proof, one behind the other. -/
import Derived.Test.YtifdbmdfkhnojaaDoorMgSubstApplies31
import Derived.Test.YtifdbmdfkhnojaaDoorMgSubstApplies15
/- subst.Size. -/
namespace Go.Proofs.YtifdbmdfkhnojaaDoor
open Go.RowKit Go.Shelf Go.Maps Go.WideShapes
theorem accN_step (l : List Bnd) (V : List Tr) {C : List Bnd} {j : Nat} (hj : j < C.length) : accN l (C.take (j + 1)) V = accN l (C.take j) V + oft l V C[j].1 * (1 + C[j].2.2.2.2.size) := by
  have : C.take (j + 1) = C.take j ++ [C[j]] := by rw [List.take_succ_eq_append_getElem hj]
  rw [this]
  unfold accN
  rw [List.map_append, List.sum_append]
  simp
theorem accN_le (l : List Bnd) (V : List Tr) (C : List Bnd) (j : Nat) : accN l (C.take j) V ≤ accN l C V := by
  have h : accN l C V = accN l (C.take j) V + accN l (C.drop j) V := by
    conv => lhs; rw [← List.take_append_drop j C]
    unfold accN
    rw [List.map_append, List.sum_append]
  omega
theorem tot_size (l : List Bnd) (k n : Int) (u : Sl) (ps : Fo) : dirN l (vst l (.cons k n u ps .nil)) + accN l (cnt l) (vst l (.cons k n u ps .nil)) = 1 + (Fo.sub1 (sg l) k n ps).2.2.size := by
  rw [tot, wgt_vst, Fo.sub_cons]
  simp [Fo.size, Fo.sub]
section
variable {P : Program} {ops : Array Oper} {Q : Exit → Act → World → Prop} {md : Region.Mode} {S : World → Prop}
/-- One operation that may come up is carried out: S is shown anew. -/
theorem ops_val {o : Oper} {i : Nat} {d : Option Tmp} {v : Value} {a : Act} {w w' : World} {K : Act → World → Prop}
    (hi : ops[i]? = some o) (hd : o.dst = d) (hw : Region.wanted o (yielded ops a.tmps) = true) (he : (execOp a.eval o).run P w = .ok (.value v) w') (hS : S w')
    (hk : K (a.put d v) w') : wpOp P ops Q i (fun a' w' => S w' ∧ K a' w') a w := by
  subst hd
  unfold wpOp
  simp only [hi]
  rw [if_pos hw]
  refine .inl ?_
  unfold Oper.wp
  rw [he]
  simp only [Oper.upon]
  exact ⟨hS, hk⟩
theorem ops_skip {o : Oper} {i : Nat} {a : Act} {w w' : World} {K : Act → World → Prop}
    (hi : ops[i]? = some o) (hw : Region.wanted o (yielded ops a.tmps) = true) (he : (execOp a.eval o).run P w = .ok .skip w') (hS : S w')
    (hd : o.dst = none) (hk : K a w') : wpOp P ops Q i (fun a' w' => S w' ∧ K a' w') a w := by
  unfold wpOp
  simp only [hi]
  rw [if_pos hw]
  refine .inl ?_
  unfold Oper.wp
  rw [he]
  simp only [Oper.upon]
  rw [hd]
  exact ⟨hS, hk⟩
theorem ops_call {o : Oper} {i : Nat} {d : Option Tmp} {f : FuncId} {args : Array Value} {a : Act} {w : World} {K : Act → World → Prop}
    (hi : ops[i]? = some o) (hd : o.dst = d) (hw : Region.wanted o (yielded ops a.tmps) = true) (he : (execOp a.eval o).run P w = .ok (.enter f args) w)
    (hc : Calls P f args w fun e w' => ∃ v, e = .returned v ∧ S w' ∧ K (a.put d v) w') : wpOp P ops Q i (fun a' w' => S w' ∧ K a' w') a w := by
  subst hd
  unfold wpOp
  simp only [hi]
  rw [if_pos hw]
  refine .inl ?_
  unfold Oper.wp
  rw [he]
  simp only [Oper.upon]
  refine hc.mono fun e w' ⟨v, hv, hS, hk⟩ => ?_
  subst hv
  exact ⟨hS, hk⟩
end
set_option maxHeartbeats 4000000 in
set_option maxRecDepth 100000 in
theorem size_bind (w : World) (l : List Bnd) (v : Value) (hl : BdG w l v 1000000) (k n : Int) (u : Sl) (ps : Fo) (ht : TyG w k n u ps) (hmax : 1 + (Fo.sub1 (sg l) k n ps).2.2.size ≤ 1000000) :
    Calls Tryd.prog 18 #[v, tyVal k n (slv u)] w fun e w' => e = .returned (.int .i64 (1 + (Fo.sub1 (sg l) k n ps).2.2.size : Nat)) ∧ Below w.heap.size w w' := by
  have htot := tot_size l k n u ps
  obtain ⟨T, hT⟩ : ∃ T, 1 + (Fo.sub1 (sg l) k n ps).2.2.size = T := ⟨_, rfl⟩
  rw [hT] at htot hmax ⊢
  obtain ⟨V, hV⟩ : ∃ V, vst l (.cons k n u ps .nil) = V := ⟨_, rfl⟩
  have hVl : V.length ≤ 1 + ps.size := by rw [← hV]; exact Nat.le_trans (vst_size _ _) (by simp [Fo.size])
  have hVw : ∀ x ∈ V, (Lit.int .i64 x.2.1).wf = true := fun x hx => by
    rw [← hV] at hx
    exact Fo.wf_pre (F := .cons k n u ps .nil) ⟨ht.n, ht.wf, trivial⟩ x (vst_pre _ _ x hx)
  rw [hV] at htot
  have hps6 := ht.size
  obtain ⟨u1, u2, u3⟩ := u
  obtain ⟨A, c, rfl⟩ := hl.at_.form
  obtain ⟨w1, hw1⟩ : ∃ w1, w.alloc (.cells #[.int .i64 k, .int .i64 n, .slice u1 u2 u3] 25) = w1 := ⟨_, rfl⟩
  have hb1 : Below w.heap.size w w1 := by rw [← hw1]; exact (Below.refl _ _).alloc (Nat.le_refl _) _
  have hs1 : w1.heap.size = w.heap.size + 1 := by rw [← hw1]; simp
  have hB1 : w1.heap[w.heap.size]? = some (.cells #[.int .i64 k, .int .i64 n, .slice u1 u2 u3] 25) := by rw [← hw1]; exact heap_alloc_new _ _
  have hby := byvar_any w1 w1.heap.size l _ (Nat.le_refl _) (hl.later hb1).at_ hl.wf hl.len
  have HBY := Lib.hid hby
  have HL := Lib.hid hl
  have HTY := Lib.hid ht
  have HT := Lib.hid hT
  have HV := Lib.hid hV
  have HB1 := Lib.hid hb1
  have HBX := Lib.hid hB1
  have HS1 := Lib.hid hs1
  have hlen := hl.len
  have hmm := @run_makeMap Tryd.prog
  clear hby hl ht hT hV hb1 hB1 hs1
  dsimp only [tyVal, slv]
  go_enter Tryd.func18, Tryd.ntmps18
  go_wp2_with fail
  refine HBY.out.mono ?_
  clear HBY
  rintro e w2 ⟨bm, rfl, hbm, hmp, hb2⟩
  have hs1 := HS1.out
  have hb02 := HB1.out.trans (hb2.mono (by omega))
  have hs2 : w1.heap.size ≤ w2.heap.size := hb2.size
  -- the boxes
  obtain ⟨w6, hw6⟩ : ∃ w6, (((w2.alloc (.cells #[.map (some bm)] 56)).alloc (.cells #[.int .i64 0] 3)).alloc (.map #[] 0)).alloc (.cells #[.map (some (w2.heap.size + 1 + 1))] 64) = w6 := ⟨_, rfl⟩
  have z6 : w6.heap.size = w2.heap.size + 4 := by rw [← hw6]; simp
  have b26 : Below w2.heap.size w2 w6 := by rw [← hw6]; exact ((((Below.refl _ _).alloc (Nat.le_refl _) _).alloc (by simp) _).alloc (by simp only [World.size_alloc]; omega) _).alloc (by simp only [World.size_alloc]; omega) _
  have q3 : w6.heap[w2.heap.size]? = some (.cells #[.map (some bm)] 56) := by
    rw [← hw6]
    exact (Below.heap_alloc _ _ _ (by simp only [World.size_alloc]; omega)).trans ((Below.heap_alloc _ _ _ (by simp only [World.size_alloc]; omega)).trans ((Below.heap_alloc _ _ _ (by simp)).trans (heap_alloc_new _ _)))
  have q4 : w6.heap[w2.heap.size + 1]? = some (.cells #[.int .i64 0] 3) := by
    rw [← hw6]
    refine (Below.heap_alloc _ _ _ (by simp only [World.size_alloc]; omega)).trans ((Below.heap_alloc _ _ _ (by simp)).trans ?_)
    have := heap_alloc_new (w2.alloc (.cells #[.map (some bm)] 56)) (.cells #[.int .i64 0] 3)
    rwa [World.size_alloc] at this
  have q5 : MapF (fun _ => none) 0 0 (w2.heap.size + 1 + 1) w6 := by
    have := MapF.made ((w2.alloc (.cells #[.map (some bm)] 56)).alloc (.cells #[.int .i64 0] 3))
    rw [← hw6]
    simp only [World.size_alloc] at this
    exact this.kept (World.grownBy_alloc _ _ none) (by simp)
  have q6 : w6.heap[w2.heap.size + 1 + 1 + 1]? = some (.cells #[.map (some (w2.heap.size + 1 + 1))] 64) := by
    rw [← hw6]
    have := heap_alloc_new (((w2.alloc (.cells #[.map (some bm)] 56)).alloc (.cells #[.int .i64 0] 3)).alloc (.map #[] 0)) (.cells #[.map (some (w2.heap.size + 1 + 1))] 64)
    simp only [World.size_alloc] at this
    exact this
  have hj0 : SzJ l w2.heap.size w6.heap.size bm w2.heap.size (w2.heap.size + 1 + 1 + 1) (w2.heap.size + 1) (w2.heap.size + 1 + 1) [] w6 :=
    ⟨q3, q6, q4, ⟨0, q5.ext fun n _ => by simp [oftM, oft]⟩, .inr ⟨bm, _, _, rfl, hmp.below b26⟩, hmp.lt, by omega, by omega⟩
  have hbm2 := hmp.lt
  have hea := each_bind w6 w2.heap.size (by omega) l (.map (some bm)) (fun W hW => .inr ⟨bm, _, _, rfl, ((hmp.below b26).block (hW.block _ hbm2))⟩) 44 #[.pointer (some ⟨w2.heap.size, 0, none⟩), .pointer (some ⟨w2.heap.size + 1 + 1 + 1, 0, none⟩), .pointer (some ⟨w2.heap.size + 1, 0, none⟩)]
    (enters_of Tryd.func44 (by kernel_rfl) rfl) k n (u1, u2, u3) ps ((HTY.out.at_.below (hb02.trans (b26.mono hb02.size))).keep hb02.size fun _ _ _ => rfl) HTY.out.size HTY.out.n HTY.out.wf
    (SzJ l w2.heap.size w6.heap.size bm w2.heap.size (w2.heap.size + 1 + 1 + 1) (w2.heap.size + 1) (w2.heap.size + 1 + 1)) (fun pre W W' h hW hb => h.below hb (by omega)) hj0
    (fun pre x W hj hbW hW hx ⟨r, hr⟩ => visit_size l w2.heap.size w6.heap.size bm w2.heap.size (w2.heap.size + 1 + 1 + 1) (w2.heap.size + 1) (w2.heap.size + 1 + 1) (by omega) pre (by
      have := congrArg List.length hr
      rw [HV.out] at this
      simp at this
      omega) x hx W hW hj)
  rw [HV.out] at hea
  have e0 : w6.cell? ⟨w.heap.size, 0, none⟩ = some (.int .i64 k) := cell_of_row w6 _ 0 _ _ (0, 0) ((b26.block _ (by omega)).trans ((hb2.block _ (by omega)).trans HBX.out))
  have e1 : w6.cell? ⟨w.heap.size, 1, none⟩ = some (.int .i64 n) := cell_of_row w6 _ 1 _ _ (0, 0) ((b26.block _ (by omega)).trans ((hb2.block _ (by omega)).trans HBX.out))
  have e2 : w6.cell? ⟨w.heap.size, 2, none⟩ = some (.slice u1 u2 u3) := cell_of_row w6 _ 2 _ _ (0, 0) ((b26.block _ (by omega)).trans ((hb2.block _ (by omega)).trans HBX.out))
  have e3 : w6.cell? ⟨w2.heap.size, 0, none⟩ = some (.map (some bm)) := cell_of_row w6 _ 0 _ _ (0, 0) q3
  have HEA := Lib.hid hea
  have HB02 := Lib.hid hb02
  have HB26 := Lib.hid b26
  have HZ := Lib.hid (And.intro z6 (And.intro hs2 hs1))
  clear hea hb02 b26 q3 q4 q5 q6 hj0 hmp hb2 hbm hbm2 z6 hs2 hs1
  dsimp only [tyVal, slv] at HEA
  go_wp2_with fail
  refine HEA.out.mono ?_
  clear HEA
  rintro e w7 ⟨⟨v7, rfl⟩, hj7, hb7, hs7⟩
  obtain ⟨z6, hs2, hs1⟩ := HZ.out
  have hb07 : Below w.heap.size w w7 := HB02.out.trans ((HB26.out.trans hb7).mono HB02.out.size)
  have hct := counting_any w7 l _ (HL.out.later hb07).at_ HL.out.wf (by omega)
  have HJ7 := Lib.hid hj7
  have HB07 := Lib.hid hb07
  have HS7 := Lib.hid (And.intro z6 (And.intro hs2 (And.intro hs1 hs7)))
  have HB27 := Lib.hid (HB26.out.trans hb7)
  have HCT := Lib.hid hct
  clear hj7 hb7 hb07 hct z6 hs2 hs1 hs7 e0 e1 e2 e3 HB26 hw6
  go_wp2_with fail
  refine HCT.out.mono ?_
  clear HCT
  rintro e w8 ⟨v8, rfl, hC, hb8, hg8⟩
  obtain ⟨A8, c8, rfl⟩ := hC.form
  have hcl := cnt_len l
  obtain ⟨CA, hCA⟩ : ∃ CA, cnt l = CA := ⟨_, rfl⟩
  have HCA := Lib.hid hCA
  rw [hCA] at hC hcl htot ⊢
  have HC := Lib.hid hC
  have HG8 := Lib.hid hg8
  have HB8 := Lib.hid hb8
  have HTOT := Lib.hid htot
  clear hCA hC hg8 hb8 htot
  go_wp2_with fail
  go_loopw [20] (fun s20 wr => ∃ j : Nat, s20 = .int .i64 j ∧ j ≤ CA.length ∧ Boxed wr (w2.heap.size + 1) 3 (.int .i64 ((dirN l V + accN l (CA.take j) V : Nat) : Int)) ∧ (∀ b, b < w8.heap.size → b ≠ w2.heap.size + 1 → wr.heap[b]? = w8.heap[b]?) ∧ Below w2.heap.size w8 wr ∧ w8.heap.size ≤ wr.heap.size) (fun s _ => CA.length - (intOf s).toNat)
  case atStart =>
    obtain ⟨z6, hs2, hs1, hs7⟩ := HS7.out
    refine ⟨0, rfl, Nat.zero_le _, ?_, fun _ _ _ => rfl, Below.refl _ _, Nat.le_refl _⟩
    have := HJ7.out.s
    have e : dirN l V + accN l (CA.take 0) V = dirN l V := by simp [accN]
    rw [e]
    exact (HB8.out.block _ (by omega)).trans this
  case round =>
    obtain ⟨j, rfl, hj, hbs, hkp, hb, hsz⟩ := hrel
    obtain ⟨z6, hs2, hs1, hs7⟩ := HS7.out
    have hs8 := HB8.out.size
    by_cases hjl : j < CA.length
    · obtain ⟨bb, off, rfl, hlt, c0, c1, c2, c3⟩ := HC.out.at j hjl
      have hge : w7.heap.size ≤ bb := HG8.out bb rfl
      have hblk := hkp bb hlt (by omega)
      have k0 := (World.cell?_of_block (a := ⟨bb, off + j * 4, none⟩) hblk).trans c0
      have k1 := (World.cell?_of_block (a := ⟨bb, off + j * 4 + 1, none⟩) hblk).trans c1
      have k2 := (World.cell?_of_block (a := ⟨bb, off + j * 4 + 2, none⟩) hblk).trans c2
      have k3 := (World.cell?_of_block (a := ⟨bb, off + j * 4 + 3, none⟩) hblk).trans c3
      have hmem : CA[j] ∈ l := cnt_sub (by rw [HCA.out]; exact List.getElem_mem hjl)
      have hb0r : Below w.heap.size w wr := (HB07.out.trans (HB8.out.mono HB07.out.size)).trans (hb.mono (by omega))
      have hty := (HL.out.later hb0r).types (Nat.le_refl _) _ hmem
      have hwf := HL.out.wf _ hmem
      have hst := accN_step l V hjl
      have hle := accN_le l V CA (j + 1)
      have htt := HTOT.out
      obtain ⟨x, hx⟩ : ∃ x, CA[j] = x := ⟨_, rfl⟩
      rw [hx] at k0 k1 k2 k3 hty hwf hst
      obtain ⟨x0, x1, x2, ⟨A4, n4, c4⟩, x4⟩ := x
      dsimp only [slv] at k0 k1 k2 k3 hty hwf hst
      obtain ⟨O, hO⟩ : ∃ O, oft l V x0 = O := ⟨_, rfl⟩
      obtain ⟨N, hN⟩ : ∃ N, dirN l V + accN l (CA.take j) V = N := ⟨_, rfl⟩
      have hNn : dirN l V + accN l (CA.take (j + 1)) V = N + O * (1 + x4.size) := by rw [hst, hO]; omega
      rw [hN] at hbs
      have hbd : N + O * (1 + x4.size) ≤ 1000000 := by rw [← hNn]; omega
      obtain ⟨w9, hw9⟩ : ∃ w9, wr.alloc (.cells #[.int .i64 x0, .int .i64 x1, .int .i64 x2, .slice A4 n4 c4] 49) = w9 := ⟨_, rfl⟩
      have hb9 : Below wr.heap.size wr w9 := by rw [← hw9]; exact (Below.refl _ _).alloc (Nat.le_refl _) _
      have hs9 : w9.heap.size = wr.heap.size + 1 := by rw [← hw9]; simp
      have hB9 : w9.heap[wr.heap.size]? = some (.cells #[.int .i64 x0, .int .i64 x1, .int .i64 x2, .slice A4 n4 c4] 49) := by rw [← hw9]; exact heap_alloc_new _ _
      have hob : Boxed wr (w2.heap.size + 1 + 1 + 1) 64 (.map (some (w2.heap.size + 1 + 1))) := (hkp _ (by omega) (by omega)).trans ((HB8.out.block _ (by omega)).trans HJ7.out.o)
      obtain ⟨S, hof⟩ := HJ7.out.oft
      have hof2 : MapF (oftM l V) S V.length (w2.heap.size + 1 + 1) wr := (hof.block (HB8.out.block _ (by omega))).block (hkp _ (by omega) (by omega))
      -- what a later world has
      have kc : ∀ W, Below w9.heap.size w9 W → W.cell? ⟨w2.heap.size + 1, 0, none⟩ = some (.int .i64 N) ∧ W.frozen? ⟨w2.heap.size + 1, 0, none⟩ = false ∧ W.cell? ⟨w2.heap.size + 1 + 1 + 1, 0, none⟩ = some (.map (some (w2.heap.size + 1 + 1))) ∧
          W.cell? ⟨wr.heap.size, 0, none⟩ = some (.int .i64 x0) ∧ W.cell? ⟨wr.heap.size, 1, none⟩ = some (.int .i64 x1) ∧ W.cell? ⟨wr.heap.size, 2, none⟩ = some (.int .i64 x2) ∧ W.cell? ⟨wr.heap.size, 3, none⟩ = some (.slice A4 n4 c4) ∧
          (Instr.lookup 64 (.map (some (w2.heap.size + 1 + 1))) (.int .i64 x0) false).run Tryd.prog W = .ok (.int .i64 O) W := by
        intro W hW
        have hrW : Below wr.heap.size wr W := hb9.trans (hW.mono (by omega))
        have b1 : Boxed W (w2.heap.size + 1) 3 (.int .i64 N) := (hrW.block _ (by omega)).trans hbs
        have b2 : Boxed W (w2.heap.size + 1 + 1 + 1) 64 (.map (some (w2.heap.size + 1 + 1))) := (hrW.block _ (by omega)).trans hob
        have b3 := (hW.block wr.heap.size (by omega)).trans hB9
        have hlk := (hof2.below hrW).look intsTy x0 hwf.1
        rw [oftM_getD, hO] at hlk
        exact ⟨b1.cell, b1.frozen, b2.cell, cell_of_row W _ 0 _ _ (0, 0) b3, cell_of_row W _ 1 _ _ (0, 0) b3, cell_of_row W _ 2 _ _ (0, 0) b3, cell_of_row W _ 3 _ _ (0, 0) b3, hlk⟩
      have hsz2 := size_any w9.drew w9.heap.size x1 x2 (A4, n4, c4) x4 (Nat.le_refl _) ((hty.1.later hb9).below (Below.refl _ _).drew) hty.2
      obtain ⟨m0, m1, m2, m3, m4, m5, m6, m7⟩ := kc w9.drew (Below.refl w9.heap.size w9).drew
      have f1 : IntKind.i64.wrap ((O : Int) * (1 + (x4.size : Int))) = (O : Int) * (1 + (x4.size : Int)) := IntWalk.i64_in _ (by
        have h1 : ((O * (1 + x4.size) : Nat) : Int) = (O : Int) * (1 + (x4.size : Int)) := by push_cast; rfl
        rw [← h1]; omega)
      have f2 : IntKind.i64.wrap ((N : Int) + (O : Int) * (1 + (x4.size : Int))) = (N : Int) + (O : Int) * (1 + (x4.size : Int)) := IntWalk.i64_in _ (by
        have h1 : ((O * (1 + x4.size) : Nat) : Int) = (O : Int) * (1 + (x4.size : Int)) := by push_cast; rfl
        rw [← h1]; omega)
      have hfin : ∀ w10, Below w9.heap.size w9 w10 → Boxed (w10.setCell ⟨w2.heap.size + 1, 0, none⟩ (.int .i64 ((N : Int) + (O : Int) * (1 + (x4.size : Int))))) (w2.heap.size + 1) 3 (.int .i64 ((dirN l V + accN l (CA.take (j + 1)) V : Nat) : Int)) ∧ (∀ b, b < w8.heap.size → b ≠ w2.heap.size + 1 → (w10.setCell ⟨w2.heap.size + 1, 0, none⟩ (.int .i64 ((N : Int) + (O : Int) * (1 + (x4.size : Int))))).heap[b]? = w8.heap[b]?) ∧ Below w2.heap.size w8 (w10.setCell ⟨w2.heap.size + 1, 0, none⟩ (.int .i64 ((N : Int) + (O : Int) * (1 + (x4.size : Int))))) ∧ w8.heap.size ≤ (w10.setCell ⟨w2.heap.size + 1, 0, none⟩ (.int .i64 ((N : Int) + (O : Int) * (1 + (x4.size : Int))))).heap.size := by
        intro w10 h10
        have hrW : Below wr.heap.size wr w10 := hb9.trans (h10.mono (by omega))
        have b1 : Boxed w10 (w2.heap.size + 1) 3 (.int .i64 N) := (hrW.block _ (by omega)).trans hbs
        refine ⟨?_, fun b h1 h2 => (Below.heap_setCell _ _ _ _ h2).trans ((hrW.block _ (by omega)).trans (hkp b h1 h2)), ?_, by have := hrW.size; simp [World.setCell]; omega⟩
        · rw [hNn]
          have := b1.set (.int .i64 ((N : Int) + (O : Int) * (1 + (x4.size : Int))))
          have h1 : ((N + O * (1 + x4.size) : Nat) : Int) = (N : Int) + (O : Int) * (1 + (x4.size : Int)) := by push_cast; rfl
          rw [h1]; exact this
        · exact (hb.trans (hrW.mono (by omega))).setCell (by simp) _
      obtain ⟨NI, hNI⟩ : ∃ v : Int, (N : Int) + (O : Int) * (1 + (x4.size : Int)) = v := ⟨_, rfl⟩
      have hNIb : NI ≤ 1000000 := by
        have h1 : ((N + O * (1 + x4.size) : Nat) : Int) = (N : Int) + (O : Int) * (1 + (x4.size : Int)) := by push_cast; rfl
        rw [← hNI, ← h1]; omega
      rw [hNI] at hfin
      obtain ⟨S0, hS0⟩ : ∃ S0 : World → Prop, S0 = fun W => W.cell? ⟨w2.heap.size + 1 + 1 + 1, 0, none⟩ = some (.map (some (w2.heap.size + 1 + 1))) ∧
          W.cell? ⟨wr.heap.size, 0, none⟩ = some (.int .i64 x0) ∧ W.cell? ⟨wr.heap.size, 1, none⟩ = some (.int .i64 x1) ∧ W.cell? ⟨wr.heap.size, 2, none⟩ = some (.int .i64 x2) ∧ W.cell? ⟨wr.heap.size, 3, none⟩ = some (.slice A4 n4 c4) ∧
          (Instr.lookup 64 (.map (some (w2.heap.size + 1 + 1))) (.int .i64 x0) false).run Tryd.prog W = .ok (.int .i64 O) W := ⟨_, rfl⟩
      have hSa : ∀ W, Below w9.heap.size w9 W → S0 W := fun W hW => by
        rw [hS0]
        obtain ⟨_, _, q⟩ := kc W hW
        exact q
      have hSb : ∀ W, Below w9.heap.size w9 W → S0 (W.setCell ⟨w2.heap.size + 1, 0, none⟩ (.int .i64 NI)) := fun W hW => by
        have hrW : Below wr.heap.size wr W := hb9.trans (hW.mono (by omega))
        have b2 : Boxed W (w2.heap.size + 1 + 1 + 1) 64 (.map (some (w2.heap.size + 1 + 1))) := (hrW.block _ (by omega)).trans hob
        have b3 := (hW.block wr.heap.size (by omega)).trans hB9
        have e2 : Boxed (W.setCell ⟨w2.heap.size + 1, 0, none⟩ (.int .i64 NI)) (w2.heap.size + 1 + 1 + 1) 64 (.map (some (w2.heap.size + 1 + 1))) := (Below.heap_setCell _ _ _ _ (by simp only; omega)).trans b2
        have e3 := (Below.heap_setCell W ⟨w2.heap.size + 1, 0, none⟩ (.int .i64 NI) _ (by simp only; omega)).trans b3
        have hlk := ((hof2.below hrW).block (Below.heap_setCell W ⟨w2.heap.size + 1, 0, none⟩ (.int .i64 NI) _ (by simp only; omega))).look intsTy x0 hwf.1
        rw [oftM_getD, hO] at hlk
        rw [hS0]
        exact ⟨e2.cell, cell_of_row _ _ 0 _ _ (0, 0) e3, cell_of_row _ _ 1 _ _ (0, 0) e3, cell_of_row _ _ 2 _ _ (0, 0) e3, cell_of_row _ _ 3 _ _ (0, 0) e3, hlk⟩
      have KC := Lib.hid kc
      have HSA := Lib.hid hSa
      have HSB := Lib.hid hSb
      have HS0 := Lib.hid hS0
      have HNI := Lib.hid hNI
      have HNIb := Lib.hid hNIb
      have HFN := Lib.hid hfin
      have HSZ := Lib.hid hsz2
      have HX := Lib.hid hx
      have HBD := Lib.hid hbd
      clear kc hfin hSa hSb hS0 hNI hNIb hsz2 hx hbd hNn hN hO hst hle htt hty hwf hbs hkp hb hsz hB9 hs9 hb9 hob hof hof2 hmem hb0r hblk hge c0 c1 c2 c3 z6 hs2 hs1 hs7 hs8
      dsimp only [tyVal, slv] at HSZ
      go_wp2_with fail
      refine wp_region_held (S := S0) (by kernel_rfl) ?_
      have HS9 := Lib.hid (HSA.out w9.drew (Below.refl w9.heap.size w9).drew)
      have hS9 := HS9.out
      change wpAnyH _ _ _ _ _ 12 (List.replicate 12 false).toArray _ w9.drew
      simp only [List.replicate_succ, List.replicate_zero]
      have EX : ∀ W, S0 W → W.cell? ⟨w2.heap.size + 1 + 1 + 1, 0, none⟩ = some (.map (some (w2.heap.size + 1 + 1))) ∧
          W.cell? ⟨wr.heap.size, 0, none⟩ = some (.int .i64 x0) ∧ W.cell? ⟨wr.heap.size, 1, none⟩ = some (.int .i64 x1) ∧ W.cell? ⟨wr.heap.size, 2, none⟩ = some (.int .i64 x2) ∧ W.cell? ⟨wr.heap.size, 3, none⟩ = some (.slice A4 n4 c4) ∧
          (Instr.lookup 64 (.map (some (w2.heap.size + 1 + 1))) (.int .i64 x0) false).run Tryd.prog W = .ok (.int .i64 O) W := fun W h => by rw [HS0.out] at h; exact h
      have EX := Lib.hid EX
      refine any_take (i := 1) (some 25) (.map (some (w2.heap.size + 1 + 1))) rfl (by rfl) (by kernel_rfl) (by kernel_rfl) (by kernel_rfl) (fun _ _ _ h => h) (Or.inl ⟨by kernel_rfl, (fun w hw => by obtain ⟨n0, n1, n2, n3, n4, n5⟩ := EX.out w hw; clear hw; go_simp)⟩) hS9 ?_
      simp only [Act.put, List.setIfInBounds_toArray, List.set_cons_zero, List.set_cons_succ]
      refine any_take (i := 2) (some 26) (.pointer (some ⟨wr.heap.size, 0, none⟩)) rfl (by rfl) (by kernel_rfl) (by kernel_rfl) (by kernel_rfl) (fun _ _ _ h => h) (Or.inl ⟨by kernel_rfl, (fun w hw => by clear hw; go_simp)⟩) hS9 ?_
      simp only [Act.put, List.setIfInBounds_toArray, List.set_cons_zero, List.set_cons_succ]
      refine any_take (i := 5) (some 29) (.pointer (some ⟨wr.heap.size, 1, none⟩)) rfl (by rfl) (by kernel_rfl) (by kernel_rfl) (by kernel_rfl) (fun _ _ _ h => h) (Or.inl ⟨by kernel_rfl, (fun w hw => by clear hw; go_simp)⟩) hS9 ?_
      simp only [Act.put, List.setIfInBounds_toArray, List.set_cons_zero, List.set_cons_succ]
      refine any_take (i := 3) (some 27) (.int .i64 x0) rfl (by rfl) (by kernel_rfl) (by kernel_rfl) (by kernel_rfl) (fun _ _ _ h => h) (Or.inl ⟨by kernel_rfl, (fun w hw => by obtain ⟨n0, n1, n2, n3, n4, n5⟩ := EX.out w hw; clear hw; go_simp)⟩) hS9 ?_
      simp only [Act.put, List.setIfInBounds_toArray, List.set_cons_zero, List.set_cons_succ]
      refine any_take (i := 4) (some 28) (.int .i64 O) rfl (by rfl) (by kernel_rfl) (by kernel_rfl) (by kernel_rfl) (fun _ _ _ h => h) (Or.inl ⟨by kernel_rfl, (fun w hw => by obtain ⟨n0, n1, n2, n3, n4, n5⟩ := EX.out w hw; clear hw; go_simp)⟩) hS9 ?_
      simp only [Act.put, List.setIfInBounds_toArray, List.set_cons_zero, List.set_cons_succ]
      refine any_take (i := 6) (some 30) (.agg #[.int .i64 x1, .int .i64 x2, .slice A4 n4 c4]) rfl (by rfl) (by kernel_rfl) (by kernel_rfl) (by kernel_rfl) (fun _ _ _ h => h) (Or.inl ⟨by kernel_rfl, (fun w hw => by obtain ⟨n0, n1, n2, n3, n4, n5⟩ := EX.out w hw; clear hw; go_simp)⟩) hS9 ?_
      simp only [Act.put, List.setIfInBounds_toArray, List.set_cons_zero, List.set_cons_succ]
      have tail : ∀ (lst : Array Bool) (a0 : Act), True := fun _ _ => trivial
      refine wpAnyH_all (rs := [0, 7]) (by kernel_rfl) (by simp) fun q hq => ?_
      rcases (by simpa using hq : q = 0 ∨ q = 7) with rfl | rfl
      · refine ops_val (d := some 24) (v := .int .i64 N) rfl (by rfl) (by kernel_rfl) (by go_simp) hS9 ?_
        simp only [Act.put, List.setIfInBounds_toArray, List.set_cons_zero, List.set_cons_succ]
        refine wpAnyH_all (rs := [7]) (by kernel_rfl) (by simp) fun q hq => ?_
        obtain rfl : q = 7 := by simpa using hq
        refine ops_call (d := some 31) rfl (by rfl) (by kernel_rfl) (by go_simp) (HSZ.out.mono ?_)
        rintro e w10 ⟨rfl, hb10⟩
        refine ⟨_, rfl, HSA.out w10 ((Below.refl w9.heap.size w9).drew.trans hb10), ?_⟩
        have hS10 := HSA.out w10 ((Below.refl w9.heap.size w9).drew.trans hb10)
        obtain ⟨n0, n1, _⟩ := KC.out w10 ((Below.refl w9.heap.size w9).drew.trans hb10)
        simp only [Act.put, List.setIfInBounds_toArray, List.set_cons_zero, List.set_cons_succ]
        refine any_take (i := 8) (some 32) (.int .i64 ((O : Int) * (1 + (x4.size : Int)))) rfl (by rfl) (by kernel_rfl) (by kernel_rfl) (by kernel_rfl) (fun _ _ _ h => h) (Or.inl ⟨by kernel_rfl, (fun w hw => by clear hw; go_simp)⟩) hS10 ?_
        simp only [Act.put, List.setIfInBounds_toArray, List.set_cons_zero, List.set_cons_succ]
        refine any_take (i := 9) (some 33) (.int .i64 NI) rfl (by rfl) (by kernel_rfl) (by kernel_rfl) (by kernel_rfl) (fun _ _ _ h => h) (Or.inl ⟨by kernel_rfl, (fun w hw => by clear hw; rw [← HNI.out]; go_simp)⟩) hS10 ?_
        simp only [Act.put, List.setIfInBounds_toArray, List.set_cons_zero, List.set_cons_succ]
        refine any_take (i := 10) (some 34) (.int .i64 NI) rfl (by rfl) (by kernel_rfl) (by kernel_rfl) (by kernel_rfl) (fun _ _ _ h => h) (Or.inl ⟨by kernel_rfl, (fun w hw => by clear hw; go_simp; have := HNIb.out; omega)⟩) hS10 ?_
        simp only [Act.put, List.setIfInBounds_toArray, List.set_cons_zero, List.set_cons_succ]
        refine wpAnyH_all (rs := [11]) (by kernel_rfl) (by simp) fun q hq => ?_
        obtain rfl : q = 11 := by simpa using hq
        refine ops_skip (w' := w10.setCell ⟨w2.heap.size + 1, 0, none⟩ (.int .i64 NI)) rfl (by kernel_rfl) (by go_simp) (HSB.out w10 ((Below.refl w9.heap.size w9).drew.trans hb10)) rfl ?_
        refine wpAnyH_done (by kernel_rfl) ?_ _
        go_wp2_with fail
        obtain ⟨r1, r2, r3, r4⟩ := HFN.out w10 ((Below.refl w9.heap.size w9).drew.trans hb10)
        exact ⟨⟨j + 1, rfl, hjl, r1, r2, r3, r4⟩, by have e1 : intOf (.int .i64 ((j : Int) + 1)) = (j : Int) + 1 := rfl; have e2 : intOf (.int .i64 (j : Int)) = (j : Int) := rfl; rw [e1, e2]; omega⟩
      · refine ops_call (d := some 31) rfl (by rfl) (by kernel_rfl) (by go_simp) (HSZ.out.mono ?_)
        rintro e w10 ⟨rfl, hb10⟩
        refine ⟨_, rfl, HSA.out w10 ((Below.refl w9.heap.size w9).drew.trans hb10), ?_⟩
        have hS10 := HSA.out w10 ((Below.refl w9.heap.size w9).drew.trans hb10)
        obtain ⟨n0, n1, _⟩ := KC.out w10 ((Below.refl w9.heap.size w9).drew.trans hb10)
        simp only [Act.put, List.setIfInBounds_toArray, List.set_cons_zero, List.set_cons_succ]
        refine any_take (i := 8) (some 32) (.int .i64 ((O : Int) * (1 + (x4.size : Int)))) rfl (by rfl) (by kernel_rfl) (by kernel_rfl) (by kernel_rfl) (fun _ _ _ h => h) (Or.inl ⟨by kernel_rfl, (fun w hw => by clear hw; go_simp)⟩) hS10 ?_
        simp only [Act.put, List.setIfInBounds_toArray, List.set_cons_zero, List.set_cons_succ]
        refine wpAnyH_all (rs := [0]) (by kernel_rfl) (by simp) fun q hq => ?_
        obtain rfl : q = 0 := by simpa using hq
        refine ops_val (d := some 24) (v := .int .i64 N) rfl (by rfl) (by kernel_rfl) (by go_simp) hS10 ?_
        simp only [Act.put, List.setIfInBounds_toArray, List.set_cons_zero, List.set_cons_succ]
        refine any_take (i := 9) (some 33) (.int .i64 NI) rfl (by rfl) (by kernel_rfl) (by kernel_rfl) (by kernel_rfl) (fun _ _ _ h => h) (Or.inl ⟨by kernel_rfl, (fun w hw => by clear hw; rw [← HNI.out]; go_simp)⟩) hS10 ?_
        simp only [Act.put, List.setIfInBounds_toArray, List.set_cons_zero, List.set_cons_succ]
        refine any_take (i := 10) (some 34) (.int .i64 NI) rfl (by rfl) (by kernel_rfl) (by kernel_rfl) (by kernel_rfl) (fun _ _ _ h => h) (Or.inl ⟨by kernel_rfl, (fun w hw => by clear hw; go_simp; have := HNIb.out; omega)⟩) hS10 ?_
        simp only [Act.put, List.setIfInBounds_toArray, List.set_cons_zero, List.set_cons_succ]
        refine wpAnyH_all (rs := [11]) (by kernel_rfl) (by simp) fun q hq => ?_
        obtain rfl : q = 11 := by simpa using hq
        refine ops_skip (w' := w10.setCell ⟨w2.heap.size + 1, 0, none⟩ (.int .i64 NI)) rfl (by kernel_rfl) (by go_simp) (HSB.out w10 ((Below.refl w9.heap.size w9).drew.trans hb10)) rfl ?_
        refine wpAnyH_done (by kernel_rfl) ?_ _
        go_wp2_with fail
        obtain ⟨r1, r2, r3, r4⟩ := HFN.out w10 ((Below.refl w9.heap.size w9).drew.trans hb10)
        exact ⟨⟨j + 1, rfl, hjl, r1, r2, r3, r4⟩, by have e1 : intOf (.int .i64 ((j : Int) + 1)) = (j : Int) + 1 := rfl; have e2 : intOf (.int .i64 (j : Int)) = (j : Int) := rfl; rw [e1, e2]; omega⟩
    · have hje : j = CA.length := by omega
      subst hje
      have hbb : Boxed wr (w2.heap.size + 1) 3 (.int .i64 (T : Int)) := by
        have := HTOT.out
        rw [List.take_length] at hbs
        rwa [this] at hbs
      have c0 := hbb.cell
      have hbR := HB07.out.trans ((HB8.out.mono HB07.out.size).trans (hb.mono (by omega)))
      have HBR := Lib.hid hbR
      clear hbs hbb hkp hb hsz hbR z6 hs2 hs1 hs7 hs8
      go_wp2_with fail
      exact bodyPost_ret (results_tmp rfl _ _ _) rfl ⟨rfl, HBR.out⟩
end Go.Proofs.YtifdbmdfkhnojaaDoor
