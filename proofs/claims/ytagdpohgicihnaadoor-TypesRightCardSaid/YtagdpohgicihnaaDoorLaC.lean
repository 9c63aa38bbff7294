/- TypesRight. -/
import Derived.Test.YtagdpohgicihnaaDoorAwB
import Derived.Test.YtagdpohgicihnaaDoorTyO
import Derived.Test.YtagdpohgicihnaaDoorTyS
import Derived.Test.YtagdpohgicihnaaDoorTzA
import Derived.Test.YtagdpohgicihnaaDoorVaC
import Derived.Test.YtagdpohgicihnaaDoorVaB
import Derived.Test.YtagdpohgicihnaaDoorLaA
import Derived.Test.YtagdpohgicihnaaDoorRgn
namespace Go.Proofs.YtagdpohgicihnaaDoor
open Go.RowKit Go.Shelf

theorem any_varsL (x : Int) (P : List Tr) (l : List Int) : decide (x ∈ varsL l P) = (decide (x ∈ l) || P.any (isVar x)) := by
  induction P generalizing l with
  | nil => rw [show varsL l [] = l from rfl]; simp
  | cons y r ih =>
    have h := ih (addV l y)
    rw [show varsL l (y :: r) = varsL (addV l y) r from rfl, h, List.any_cons, ← Bool.or_assoc]
    congr 1
    unfold addV isVar
    by_cases h1 : y.1 = 1
    · by_cases h2 : y.2.1 ∈ l
      · by_cases h3 : y.2.1 = x
        · subst h3; simp [h2]
        · simp [h1, h2, h3]
      · by_cases h3 : y.2.1 = x
        · subst h3; simp [h1, h2]
        · simp only [h1, h2, not_false_eq_true, and_self, if_true, List.mem_append, List.mem_singleton]
          have h4 : ¬ x = y.2.1 := fun e => h3 e.symm
          rw [Bool.eq_iff_iff]; simp [h3, h4]
    · simp [h1]
theorem any_vars (F : Fo) (k n : Int) (u : Sl) (x : Int) : (Fo.cons k n u F .nil).pre.any (isVar x) = decide (x ∈ varsL [] ((k, n, ((none, 0, 0) : Sl)) :: F.pre)) := by
  rw [any_varsL]
  simp [Fo.pre, isVar]
/-- One type, two types, laid as a list. -/
theorem one_list {W : World} {F : Fo} {k n : Int} {u : Sl} (h : TyV W.heap.size W F (slv u)) : TyV (W.alloc (.cells #[.int .i64 k, .int .i64 n, slv u] 24)).heap.size (W.alloc (.cells #[.int .i64 k, .int .i64 n, slv u] 24)) (.cons k n u F .nil) (.slice (some ⟨W.heap.size, 0, none⟩) 1 1) := by
  have hb : Below W.heap.size W (W.alloc (.cells #[.int .i64 k, .int .i64 n, slv u] 24)) := (Below.refl _ _).alloc (Nat.le_refl _) _
  have hx := heap_alloc_new W (.cells #[.int .i64 k, .int .i64 n, slv u] 24)
  refine tyV_cons.2 ⟨W.heap.size, 0, 1, rfl, by simp [Fo.len], by unfold maxLen; omega, by simp, tyC_cons.2 ⟨cell_of_row _ _ 0 _ _ (0, 0) hx, cell_of_row _ _ 1 _ _ (0, 0) hx, cell_of_row _ _ 2 _ _ (0, 0) hx, ?_, tyC_nil⟩⟩
  exact h.keep hb.size fun b off hlt => hb.cell (p := ⟨b, off, none⟩) hlt
theorem two_list {W : World} {F G : Fo} {k n k' n' : Int} {u u' : Sl} (h : TyV W.heap.size W F (slv u)) (h' : TyV W.heap.size W G (slv u')) : TyV (W.alloc (.cells #[.int .i64 k, .int .i64 n, slv u, .int .i64 k', .int .i64 n', slv u'] 24)).heap.size (W.alloc (.cells #[.int .i64 k, .int .i64 n, slv u, .int .i64 k', .int .i64 n', slv u'] 24)) (.cons k n u F (.cons k' n' u' G .nil)) (.slice (some ⟨W.heap.size, 0, none⟩) 2 2) := by
  have hb : Below W.heap.size W (W.alloc (.cells #[.int .i64 k, .int .i64 n, slv u, .int .i64 k', .int .i64 n', slv u'] 24)) := (Below.refl _ _).alloc (Nat.le_refl _) _
  have hx := heap_alloc_new W (.cells #[.int .i64 k, .int .i64 n, slv u, .int .i64 k', .int .i64 n', slv u'] 24)
  refine tyV_cons.2 ⟨W.heap.size, 0, 2, rfl, by simp [Fo.len], by unfold maxLen; omega, by simp, tyC_cons.2 ⟨cell_of_row _ _ 0 _ _ (0, 0) hx, cell_of_row _ _ 1 _ _ (0, 0) hx, cell_of_row _ _ 2 _ _ (0, 0) hx, ?_, tyC_cons.2 ⟨cell_of_row _ _ 3 _ _ (0, 0) hx, cell_of_row _ _ 4 _ _ (0, 0) hx, cell_of_row _ _ 5 _ _ (0, 0) hx, ?_, tyC_nil⟩⟩⟩
  · exact h.keep hb.size fun b off hlt => hb.cell (p := ⟨b, off, none⟩) hlt
  · exact h'.keep hb.size fun b off hlt => hb.cell (p := ⟨b, off, none⟩) hlt
/-- A copy of a type, in memory. -/
def CopyOf (k n : Int) (F : Fo) (v : Value) (w : World) : Prop := ∃ (uc : Sl) (g : Fo), v = .agg #[.int .i64 k, .int .i64 n, slv uc] ∧ Img idn F g ∧ TyV w.heap.size w g (slv uc)
set_option maxRecDepth 100000 in
set_option maxHeartbeats 4000000 in
theorem rights_any (w : World) (k n k' n' x : Int) (u u' : Sl) (F G : Fo) (hF : TyV w.heap.size w F (slv u)) (hG : TyV w.heap.size w G (slv u')) (hwF : F.wf) (hwG : G.wf) (hn : (Lit.int .i64 n).wf = true) (hn' : (Lit.int .i64 n').wf = true) (ht : Tab w) :
    Calls Tryd.prog 3 #[tyVal k n (slv u), tyVal k' n' (slv u'), .int .i64 x] w fun e w' => e = .returned (.bool true) ∧ Below w.heap.size w w' := by
  obtain ⟨u1, u2, u3⟩ := u
  obtain ⟨v1, v2, v3⟩ := u'
  obtain ⟨W0, hW0⟩ : ∃ W0, (w.alloc (.cells #[.int .i64 k, .int .i64 n, .slice u1 u2 u3] 24)).alloc (.cells #[.int .i64 k', .int .i64 n', .slice v1 v2 v3] 24) = W0 := ⟨_, rfl⟩
  have hb0 : Below w.heap.size w W0 := by rw [← hW0]; exact ((Below.refl _ _).alloc (Nat.le_refl _) _).alloc (by simp) _
  have hx0 : W0.heap[w.heap.size]? = some (Obj.cells #[.int .i64 k, .int .i64 n, .slice u1 u2 u3] 24) := by
    rw [← hW0]; exact (Below.heap_alloc _ _ _ (by simp)).trans (heap_alloc_new w _)
  have hy0 : W0.heap[w.heap.size + 1]? = some (Obj.cells #[.int .i64 k', .int .i64 n', .slice v1 v2 v3] 24) := by
    rw [← hW0]
    have := heap_alloc_new (w.alloc (.cells #[.int .i64 k, .int .i64 n, .slice u1 u2 u3] 24)) (.cells #[.int .i64 k', .int .i64 n', .slice v1 v2 v3] 24)
    rwa [World.size_alloc] at this
  have hl0 : w.heap.size < W0.heap.size := by rw [← hW0]; simp only [World.size_alloc]; omega
  have hl1 : w.heap.size + 1 < W0.heap.size := by rw [← hW0]; simp
  have hF0 : TyV W0.heap.size W0 F (.slice u1 u2 u3) := hF.keep hb0.size fun b off hlt => hb0.cell (p := ⟨b, off, none⟩) hlt
  have hG0 : TyV W0.heap.size W0 G (.slice v1 v2 v3) := hG.keep hb0.size fun b off hlt => hb0.cell (p := ⟨b, off, none⟩) hlt
  have ht0 : Tab W0 := ht.below hb0
  -- what is read of the two, in every world from W0 on
  have HX := Lib.hid (show ∀ W, LS W0 W → W.cell? ⟨w.heap.size, 0, none⟩ = some (.int .i64 k) ∧ W.cell? ⟨w.heap.size, 1, none⟩ = some (.int .i64 n) ∧ W.cell? ⟨w.heap.size, 2, none⟩ = some (.slice u1 u2 u3) ∧ W.cell? ⟨w.heap.size + 1, 0, none⟩ = some (.int .i64 k') ∧ W.cell? ⟨w.heap.size + 1, 1, none⟩ = some (.int .i64 n') ∧ W.cell? ⟨w.heap.size + 1, 2, none⟩ = some (.slice v1 v2 v3) from fun W hb =>
    have h1 := (Below.block hb _ hl0).trans hx0
    have h2 := (Below.block hb _ hl1).trans hy0
    ⟨cell_of_row W _ 0 _ _ (0, 0) h1, cell_of_row W _ 1 _ _ (0, 0) h1, cell_of_row W _ 2 _ _ (0, 0) h1, cell_of_row W _ 0 _ _ (0, 0) h2, cell_of_row W _ 1 _ _ (0, 0) h2, cell_of_row W _ 2 _ _ (0, 0) h2⟩)
  have hGr1 := fun W (hb : LS W0 W) => great_any F k n (.slice u1 u2 u3) W (hF0.keep hb.size fun b off hlt => Below.cell hb (p := ⟨b, off, none⟩) hlt)
  have hGr2 := fun W (hb : LS W0 W) => great_any G k' n' (.slice v1 v2 v3) W (hG0.keep hb.size fun b off hlt => Below.cell hb (p := ⟨b, off, none⟩) hlt)
  obtain ⟨g1, hg1⟩ : ∃ g1, (!(decide (1 + F.size ≤ 300) && decide (1 + F.depth ≤ 40))) = g1 := ⟨_, rfl⟩
  obtain ⟨g2, hg2⟩ : ∃ g2, (!(decide (1 + G.size ≤ 300) && decide (1 + G.depth ≤ 40))) = g2 := ⟨_, rfl⟩
  rw [hg1] at hGr1
  rw [hg2] at hGr2
  have HGA := Lib.hid hGr1
  have HGB := Lib.hid hGr2
  have HG1 := Lib.hid hg1
  have HG2 := Lib.hid hg2
  have HAW := Lib.hid (fun W (hb : LS W0 W) => awake_any W (ht0.below hb))
  have HF0 := Lib.hid hF0
  have HG0 := Lib.hid hG0
  have HB0 := Lib.hid hb0
  obtain ⟨c0, c1, c2, c3, c4, c5⟩ := HX.out W0 (Below.refl _ _)
  clear hGr1 hGr2 hg1 hg2 hF0 hG0 ht0 hb0 hx0 hy0 ht hF hG
  dsimp only [tyVal, slv] at HGA HGB ⊢
  have FIN := Lib.hid (show ∀ W : World, LS W0 W → Below w.heap.size w W from fun W h => HB0.out.trans (Below.mono h HB0.out.size))
  go_enter Tryd.func3, Tryd.ntmps3
  cases g1 with
  | true =>
    go_wp2_with (first
      | (go_at_call 10; refine (HGA.out _ (Below.refl _ _)).mono ?_; rintro e w2 ⟨rfl, hb2⟩; have HB2 := Lib.hid hb2; clear hb2)
      | (go_at_call 11; refine (HAW.out w2 HB2.out).mono ?_; rintro e w3 ⟨rfl, hb3⟩)
      | fail)
    go_ret
    exact ⟨rfl, FIN.out _ (LS.step HB2.out hb3)⟩
  | false =>
    cases g2 with
    | true =>
      go_wp2_with (first
        | (go_at_call 11; refine (HAW.out w4 HB4.out).mono ?_; rintro e w5 ⟨rfl, hb5⟩)
        | (go_at_call 10; refine (HGB.out w2 HB2.out).mono ?_; rintro e w4 ⟨rfl, hb4⟩; have HB4 := Lib.hid (LS.step HB2.out hb4); clear hb4)
        | (go_at_call 10; refine (HGA.out _ (Below.refl _ _)).mono ?_; rintro e w2 ⟨rfl, hb2⟩; obtain ⟨d0, d1, d2, d3, d4, d5⟩ := HX.out w2 hb2; have HB2 := Lib.hid (show LS W0 w2 from hb2); clear hb2)
        | fail)
      go_ret
      exact ⟨rfl, FIN.out _ (LS.step HB4.out hb5)⟩
    | false =>
      have hs1 : F.size ≤ 299 := by
        have := HG1.out
        simp at this
        omega
      have hs2 : G.size ≤ 299 := by
        have := HG2.out
        simp at this
        omega
      go_upto_region 3 with (first
        | (go_at_call 10; refine (HGB.out w2 HB2.out).mono ?_; rintro e w4 ⟨rfl, hb4⟩; have HB4 := Lib.hid (LS.step HB2.out hb4); clear hb4)
        | (go_at_call 10; refine (HGA.out _ (Below.refl _ _)).mono ?_; rintro e w2 ⟨rfl, hb2⟩; obtain ⟨d0, d1, d2, d3, d4, d5⟩ := HX.out w2 hb2; have HB2 := Lib.hid (show LS W0 w2 from hb2); clear hb2)
        | fail)
      have tyF : ∀ W, LS W0 W → TyV W.heap.size W F (.slice u1 u2 u3) := fun W hb => HF0.out.keep (Below.size hb) fun b off hlt => Below.cell hb (p := ⟨b, off, none⟩) hlt
      have tyG : ∀ W, LS W0 W → TyV W.heap.size W G (.slice v1 v2 v3) := fun W hb => HG0.out.keep (Below.size hb) fun b off hlt => Below.cell hb (p := ⟨b, off, none⟩) hlt
      obtain ⟨okb, hokb⟩ : ∃ okb, (alone k n F.len && F.ok) = okb := ⟨_, rfl⟩
      have hpreF : allAlone (Fo.cons k n (u1, u2, u3) F .nil).pre = okb := by
        have h1 := allAlone_ok (B := W0.heap.size) (w := W0) (.cons k n (u1, u2, u3) F .nil) ⟨HF0.out, trivial⟩
        rw [h1]
        simpa [Fo.ok] using hokb
      have hrr : (alone k n F.len && allAlone F.pre) = okb := by rw [allAlone_ok F HF0.out.list]; exact hokb
      obtain ⟨sz, hsz⟩ : ∃ sz : Int, 1 + (F.size : Int) = sz := ⟨_, rfl⟩
      obtain ⟨dp, hdp⟩ : ∃ dp : Int, 1 + (F.depth : Int) = dp := ⟨_, rfl⟩
      obtain ⟨sm, hsm⟩ : ∃ sm, (k == k' && n == n' && F.same G) = sm := ⟨_, rfl⟩
      obtain ⟨L, hL⟩ : ∃ L, varsL [] ((k, n, (none, 0, 0)) :: F.pre) = L := ⟨_, rfl⟩
      obtain ⟨M, hM⟩ : ∃ M, varsL L ((k', n', (none, 0, 0)) :: G.pre) = M := ⟨_, rfl⟩
      obtain ⟨hb, hhb⟩ : ∃ hb, decide (x ∈ L) = hb := ⟨_, rfl⟩
      have hLl : L.length ≤ 300 := by
        rw [← hL]
        have := varsL_len ((k, n, ((none, 0, 0) : Sl)) :: F.pre) []
        simp [Fo.pre_len] at this
        omega
      have hMl : M.length ≤ 700 := by
        rw [← hM]
        have := varsL_len ((k', n', ((none, 0, 0) : Sl)) :: G.pre) L
        simp [Fo.pre_len] at this
        omega
      have hany : (Fo.cons k n (u1, u2, u3) F .nil).pre.any (isVar x) = hb := by
        rw [← hhb, ← hL]
        exact any_vars F k n (u1, u2, u3) x
      have hL1 : varsL [] (Fo.cons k n (u1, u2, u3) F .nil).pre = L := by rw [← hL]; simp [Fo.pre, varsL, addV]
      have hM1 : varsL [] (Fo.cons k n (u1, u2, u3) F (.cons k' n' (v1, v2, v3) G .nil)).pre = M := by rw [← hM, ← hL]; simp [Fo.pre, varsL, addV]
      have hself : (k == k && n == n && F.same F) = true := by simp [Img.same (img_refl F)]
      have CRV := Lib.hid (show ∀ W, LS W0 W → Gives Tryd.prog 12 #[(.agg #[.int .i64 k, .int .i64 n, .slice u1 u2 u3]), .slice none 0 0] W (fun v w' => Rd w' 1 v L.length (ints L)) from fun W h => hL ▸ (rvars_any _ F k n _ W [] _ (Nat.lt_succ_self _) (by simp; omega) (tyF W h) ⟨rfl, .inl ⟨rfl, none, 0, rfl⟩⟩).mono fun e w' ⟨v, h1, h2, h3⟩ => ⟨v, h1, h2, h3⟩)
      have CR := Lib.hid (show ∀ W, LS W0 W → Gives Tryd.prog 13 #[(.agg #[.int .i64 k, .int .i64 n, .slice u1 u2 u3])] W (fun v _ => v = .bool okb) from fun W h => hpreF ▸ gives_of (right_any W W.heap.size k n (u1, u2, u3) F (Nat.le_refl _) (tyF W h) (by omega)))
      have CRR := Lib.hid (show ∀ W, LS W0 W → Gives Tryd.prog 14 #[(.agg #[.int .i64 k, .int .i64 n, .slice u1 u2 u3])] W (fun v _ => v = .bool okb) from fun W h => hrr ▸ gives_of (rright_any _ F k n _ W (Nat.lt_succ_self _) (by omega) (tyF W h)))
      have CS := Lib.hid (show ∀ W, LS W0 W → Gives Tryd.prog 15 #[(.agg #[.int .i64 k, .int .i64 n, .slice u1 u2 u3])] W (fun v _ => v = .int .i64 sz) from fun W h => hsz ▸ gives_of (size_any W W.heap.size k n (u1, u2, u3) F (Nat.le_refl _) (tyF W h) (by omega)))
      have CRS := Lib.hid (show ∀ W, LS W0 W → Gives Tryd.prog 16 #[(.agg #[.int .i64 k, .int .i64 n, .slice u1 u2 u3])] W (fun v _ => v = .int .i64 sz) from fun W h => hsz ▸ gives_of (rsize_any _ F k n _ W (Nat.lt_succ_self _) (by omega) (tyF W h)))
      have CD := Lib.hid (show ∀ W, LS W0 W → Gives Tryd.prog 17 #[(.agg #[.int .i64 k, .int .i64 n, .slice u1 u2 u3])] W (fun v _ => v = .int .i64 dp) from fun W h => hdp ▸ gives_of (depth_any W k n (u1, u2, u3) F (tyF W h) (by omega)))
      have CRD := Lib.hid (show ∀ W, LS W0 W → Gives Tryd.prog 18 #[(.agg #[.int .i64 k, .int .i64 n, .slice u1 u2 u3])] W (fun v _ => v = .int .i64 dp) from fun W h => hdp ▸ gives_of (rdepth_any _ F k n _ W (Nat.lt_succ_self _) (by omega) (tyF W h)))
      have CH := Lib.hid (show ∀ W, LS W0 W → Gives Tryd.prog 21 #[(.agg #[.int .i64 k, .int .i64 n, .slice u1 u2 u3]), .int .i64 x] W (fun v _ => v = .bool hb) from fun W h => hany ▸ gives_of (has_any W W.heap.size k n x (u1, u2, u3) F (Nat.le_refl _) (tyF W h) (by omega)))
      have CIN := Lib.hid (show ∀ W v, Rd W 1 v L.length (ints L) → Gives Tryd.prog 22 #[v, .int .i64 x] W (fun v _ => v = .bool hb) from fun W v h => hhb ▸ gives_of (rin_any L v x W h (by omega)))
      have CSM := Lib.hid (show ∀ W, LS W0 W → Gives Tryd.prog 23 #[(.agg #[.int .i64 k, .int .i64 n, .slice u1 u2 u3]), (.agg #[.int .i64 k', .int .i64 n', .slice v1 v2 v3])] W (fun v _ => v = .bool sm) from fun W h => hsm ▸ gives_of (same_any W k n k' n' (u1, u2, u3) (v1, v2, v3) F G (tyF W h) (tyG W h) (by omega) (by omega)))
      have CRSM := Lib.hid (show ∀ W, LS W0 W → Gives Tryd.prog 24 #[(.agg #[.int .i64 k, .int .i64 n, .slice u1 u2 u3]), (.agg #[.int .i64 k', .int .i64 n', .slice v1 v2 v3])] W (fun v _ => v = .bool sm) from fun W h => hsm ▸ gives_of (rsame_any _ F G k n k' n' _ _ W (Nat.lt_succ_self _) (by omega) (by omega) (tyF W h) (tyG W h)))
      have CSS := Lib.hid (show ∀ W, LS W0 W → Gives Tryd.prog 23 #[(.agg #[.int .i64 k, .int .i64 n, .slice u1 u2 u3]), (.agg #[.int .i64 k, .int .i64 n, .slice u1 u2 u3])] W (fun v _ => v = .bool true) from fun W h => hself ▸ gives_of (same_any W k n k n (u1, u2, u3) (u1, u2, u3) F F (tyF W h) (tyF W h) (by omega) (by omega)))
      have CI := Lib.hid (show ∀ (K : List Int) W v v', K.length ≤ 1000 → Rd W 1 v K.length (ints K) → Rd W 1 v' K.length (ints K) → Gives Tryd.prog 19 #[v, v'] W (fun v _ => v = .bool true) from fun K W v v' hl h h' => (show (K == K) = true by simp) ▸ gives_of (rints_any K K v v' W h h' (by omega) (by omega)))
      have CC := Lib.hid (show ∀ W, LS W0 W → Gives Tryd.prog 25 #[(.agg #[.int .i64 k, .int .i64 n, .slice u1 u2 u3])] W (CopyOf k n F) from fun W h => (copy_any W k n (u1, u2, u3) F (tyF W h) (by omega)).mono fun e w' ⟨uc, h1, h2, h3⟩ => ⟨_, h1, by obtain ⟨g, hi, hT⟩ := h3.now; exact ⟨uc, g, rfl, hi, hT⟩, h2⟩)
      have CCS := Lib.hid (show ∀ W (p1 : Option Addr) (p2 p3 : Nat) g, LS W0 W → Img idn F g → TyV W.heap.size W g (.slice p1 p2 p3) → Gives Tryd.prog 24 #[.agg #[.int .i64 k, .int .i64 n, .slice p1 p2 p3], (.agg #[.int .i64 k, .int .i64 n, .slice u1 u2 u3])] W (fun v _ => v = .bool true) from fun W p1 p2 p3 g h hi hT => (show (k == k && n == n && g.same F) = true by simp [Img.same (img_symm hi)]) ▸ gives_of (rsame_any _ g F k n k n _ _ W (Nat.lt_succ_self _) (by rw [hi.size]; omega) (by omega) hT (tyF W h)))
      have CV1 := Lib.hid (show ∀ W v, TyV W.heap.size W (.cons k n (u1, u2, u3) F .nil) v → Gives Tryd.prog 20 #[v] W (fun v w' => Rd w' 1 v L.length (ints L)) from fun W v h => hL1 ▸ (vars_any W W.heap.size (.cons k n (u1, u2, u3) F .nil) v (Nat.le_refl _) h (by simp [Fo.size]; omega) ⟨hn, hwF, trivial⟩).mono fun e w' ⟨v, h1, h2, h3⟩ => ⟨v, h1, h2, h3⟩)
      have CV2 := Lib.hid (show ∀ W v, TyV W.heap.size W (.cons k n (u1, u2, u3) F (.cons k' n' (v1, v2, v3) G .nil)) v → Gives Tryd.prog 20 #[v] W (fun v w' => Rd w' 1 v M.length (ints M)) from fun W v h => hM1 ▸ (vars_any W W.heap.size (.cons k n (u1, u2, u3) F (.cons k' n' (v1, v2, v3) G .nil)) v (Nat.le_refl _) h (by simp [Fo.size]; omega) ⟨hn, hwF, hn', hwG, trivial⟩).mono fun e w' ⟨v, h1, h2, h3⟩ => ⟨v, h1, h2, h3⟩)
      have CRV2 := Lib.hid (show ∀ W v, LS W0 W → Rd W 1 v L.length (ints L) → Gives Tryd.prog 12 #[(.agg #[.int .i64 k', .int .i64 n', .slice v1 v2 v3]), v] W (fun v w' => Rd w' 1 v M.length (ints M)) from fun W v h hR => hM ▸ (rvars_any _ G k' n' _ W L v (Nat.lt_succ_self _) (by omega) (tyG W h) hR).mono fun e w' ⟨v, h1, h2, h3⟩ => ⟨v, h1, h2, h3⟩)
      have CA := Lib.hid (show ∀ W, LS W0 W → Gives Tryd.prog 11 #[] W (fun v _ => v = .bool true) from fun W h => gives_of (HAW.out W h))
      have TYF := Lib.hid tyF
      have TYG := Lib.hid tyG
      clear hpreF hrr hsz hdp hsm hL hM hhb hany hL1 hM1 hself hokb tyF tyG hwF hwG hn hn'
      obtain ⟨e0, e1, e2, e3, e4, e5⟩ := HX.out w4 HB4.out
      clear c0 c1 c2 c3 c4 c5
      try clear d0 d1 d2 d3 d4 d5
      go_wp2_with fail
      refine (CRV.out _ HB4.out).mono ?_
      rintro e w5 ⟨v7, rfl, hR7, hbn⟩
      have HS := Lib.hid (LS.step HB4.out hbn)
      have R7 := Lib.hid hR7
      clear e0 e1 e2 e3 e4 e5 hbn hR7
      go_wp2_with fail
      simp only [List.append_eq, List.cons_append, List.nil_append]
      refine wp_region_held (S := LS W0) (by kernel_rfl) ?_
      change wpAnyH _ _ _ _ _ 69 (List.replicate 69 false).toArray _ w5.drew
      simp only [List.replicate_succ, List.replicate_zero]
      have R7' := Lib.hid (show Rd w5.drew 1 v7 L.length (ints L) from Rd.drew R7.out)
      have HS' := Lib.hid (show LS W0 w5.drew from Below.drew HS.out)
      generalize w5.drew = wa at *
      clear R7 HS
      have R7 := R7'
      have HS := HS'
      clear R7' HS'
      refine any_take (i := 0) (some 17) (.agg #[.int .i64 k, .int .i64 n, .slice u1 u2 u3]) rfl (by rfl) (by kernel_rfl) (by kernel_rfl) (by kernel_rfl) (fun _ _ _ h => h) (Or.inl ⟨by kernel_rfl, (fun w hw => by obtain ⟨d0, d1, d2, d3, d4, d5⟩ := HX.out w hw; go_simp)⟩) HS.out ?_
      simp only [Act.put, List.setIfInBounds_toArray, List.set_cons_zero, List.set_cons_succ]
      refine any_take (i := 2) (some 19) (.agg #[.int .i64 k, .int .i64 n, .slice u1 u2 u3]) rfl (by rfl) (by kernel_rfl) (by kernel_rfl) (by kernel_rfl) (fun _ _ _ h => h) (Or.inl ⟨by kernel_rfl, (fun w hw => by obtain ⟨d0, d1, d2, d3, d4, d5⟩ := HX.out w hw; go_simp)⟩) HS.out ?_
      simp only [Act.put, List.setIfInBounds_toArray, List.set_cons_zero, List.set_cons_succ]
      refine any_one_d (i := 1) (some 18) rfl (by rfl) (by kernel_rfl) (by kernel_rfl) (by go_simp) HS.out (CR.out _ HS.out) ?_
      rintro v wb1 hbn hsn rfl
      have HSN := Lib.hid (show LS W0 wb1 from hsn)
      have R7' := Lib.hid (Rd.below R7.out hbn)
      clear R7
      have R7 := R7'
      clear R7'
      clear HS hbn hsn
      have HS := HSN
      clear HSN
      simp only [Act.put, List.setIfInBounds_toArray, List.set_cons_zero, List.set_cons_succ]
      refine any_one_d (i := 3) (some 20) rfl (by rfl) (by kernel_rfl) (by kernel_rfl) (by go_simp) HS.out (CRR.out _ HS.out) ?_
      rintro v wb2 hbn hsn rfl
      have HSN := Lib.hid (show LS W0 wb2 from hsn)
      have R7' := Lib.hid (Rd.below R7.out hbn)
      clear R7
      have R7 := R7'
      clear R7'
      clear HS hbn hsn
      have HS := HSN
      clear HSN
      simp only [Act.put, List.setIfInBounds_toArray, List.set_cons_zero, List.set_cons_succ]
      refine any_take (i := 4) (some 21) (.bool true) rfl (by rfl) (by kernel_rfl) (by kernel_rfl) (by kernel_rfl) (fun _ _ _ h => h) (Or.inl ⟨by kernel_rfl, (fun w _ => by go_simp)⟩) HS.out ?_
      simp only [Act.put, List.setIfInBounds_toArray, List.set_cons_zero, List.set_cons_succ]
      refine any_take (i := 5) (some 22) (.bool true) rfl (by rfl) (by kernel_rfl) (by kernel_rfl) (by kernel_rfl) (fun _ _ _ h => h) (Or.inl ⟨by kernel_rfl, (fun w _ => by go_simp)⟩) HS.out ?_
      simp only [Act.put, List.setIfInBounds_toArray, List.set_cons_zero, List.set_cons_succ]
      refine any_take (i := 6) (some 23) (.agg #[.int .i64 k, .int .i64 n, .slice u1 u2 u3]) rfl (by rfl) (by kernel_rfl) (by kernel_rfl) (by kernel_rfl) (fun _ _ _ h => h) (Or.inl ⟨by kernel_rfl, (fun w hw => by obtain ⟨d0, d1, d2, d3, d4, d5⟩ := HX.out w hw; go_simp)⟩) HS.out ?_
      simp only [Act.put, List.setIfInBounds_toArray, List.set_cons_zero, List.set_cons_succ]
      refine any_take (i := 8) (some 25) (.agg #[.int .i64 k, .int .i64 n, .slice u1 u2 u3]) rfl (by rfl) (by kernel_rfl) (by kernel_rfl) (by kernel_rfl) (fun _ _ _ h => h) (Or.inl ⟨by kernel_rfl, (fun w hw => by obtain ⟨d0, d1, d2, d3, d4, d5⟩ := HX.out w hw; go_simp)⟩) HS.out ?_
      simp only [Act.put, List.setIfInBounds_toArray, List.set_cons_zero, List.set_cons_succ]
      refine any_one_d (i := 7) (some 24) rfl (by rfl) (by kernel_rfl) (by kernel_rfl) (by go_simp) HS.out (CS.out _ HS.out) ?_
      rintro v wb3 hbn hsn rfl
      have HSN := Lib.hid (show LS W0 wb3 from hsn)
      have R7' := Lib.hid (Rd.below R7.out hbn)
      clear R7
      have R7 := R7'
      clear R7'
      clear HS hbn hsn
      have HS := HSN
      clear HSN
      simp only [Act.put, List.setIfInBounds_toArray, List.set_cons_zero, List.set_cons_succ]
      refine any_one_d (i := 9) (some 26) rfl (by rfl) (by kernel_rfl) (by kernel_rfl) (by go_simp) HS.out (CRS.out _ HS.out) ?_
      rintro v wb4 hbn hsn rfl
      have HSN := Lib.hid (show LS W0 wb4 from hsn)
      have R7' := Lib.hid (Rd.below R7.out hbn)
      clear R7
      have R7 := R7'
      clear R7'
      clear HS hbn hsn
      have HS := HSN
      clear HSN
      simp only [Act.put, List.setIfInBounds_toArray, List.set_cons_zero, List.set_cons_succ]
      refine any_take (i := 10) (some 27) (.bool true) rfl (by rfl) (by kernel_rfl) (by kernel_rfl) (by kernel_rfl) (fun _ _ _ h => h) (Or.inl ⟨by kernel_rfl, (fun w _ => by go_simp)⟩) HS.out ?_
      simp only [Act.put, List.setIfInBounds_toArray, List.set_cons_zero, List.set_cons_succ]
      refine any_take (i := 11) (some 28) (.bool true) rfl (by rfl) (by kernel_rfl) (by kernel_rfl) (by kernel_rfl) (fun _ _ _ h => h) (Or.inl ⟨by kernel_rfl, (fun w _ => by go_simp)⟩) HS.out ?_
      simp only [Act.put, List.setIfInBounds_toArray, List.set_cons_zero, List.set_cons_succ]
      refine any_take (i := 12) (some 29) (.bool true) rfl (by rfl) (by kernel_rfl) (by kernel_rfl) (by kernel_rfl) (fun _ _ _ h => h) (Or.inl ⟨by kernel_rfl, (fun w _ => by go_simp)⟩) HS.out ?_
      simp only [Act.put, List.setIfInBounds_toArray, List.set_cons_zero, List.set_cons_succ]
      refine any_take (i := 13) (some 30) (.agg #[.int .i64 k, .int .i64 n, .slice u1 u2 u3]) rfl (by rfl) (by kernel_rfl) (by kernel_rfl) (by kernel_rfl) (fun _ _ _ h => h) (Or.inl ⟨by kernel_rfl, (fun w hw => by obtain ⟨d0, d1, d2, d3, d4, d5⟩ := HX.out w hw; go_simp)⟩) HS.out ?_
      simp only [Act.put, List.setIfInBounds_toArray, List.set_cons_zero, List.set_cons_succ]
      refine any_take (i := 15) (some 32) (.agg #[.int .i64 k, .int .i64 n, .slice u1 u2 u3]) rfl (by rfl) (by kernel_rfl) (by kernel_rfl) (by kernel_rfl) (fun _ _ _ h => h) (Or.inl ⟨by kernel_rfl, (fun w hw => by obtain ⟨d0, d1, d2, d3, d4, d5⟩ := HX.out w hw; go_simp)⟩) HS.out ?_
      simp only [Act.put, List.setIfInBounds_toArray, List.set_cons_zero, List.set_cons_succ]
      refine any_one_d (i := 14) (some 31) rfl (by rfl) (by kernel_rfl) (by kernel_rfl) (by go_simp) HS.out (CD.out _ HS.out) ?_
      rintro v wb5 hbn hsn rfl
      have HSN := Lib.hid (show LS W0 wb5 from hsn)
      have R7' := Lib.hid (Rd.below R7.out hbn)
      clear R7
      have R7 := R7'
      clear R7'
      clear HS hbn hsn
      have HS := HSN
      clear HSN
      simp only [Act.put, List.setIfInBounds_toArray, List.set_cons_zero, List.set_cons_succ]
      refine any_one_d (i := 16) (some 33) rfl (by rfl) (by kernel_rfl) (by kernel_rfl) (by go_simp) HS.out (CRD.out _ HS.out) ?_
      rintro v wb6 hbn hsn rfl
      have HSN := Lib.hid (show LS W0 wb6 from hsn)
      have R7' := Lib.hid (Rd.below R7.out hbn)
      clear R7
      have R7 := R7'
      clear R7'
      clear HS hbn hsn
      have HS := HSN
      clear HSN
      simp only [Act.put, List.setIfInBounds_toArray, List.set_cons_zero, List.set_cons_succ]
      refine any_take (i := 17) (some 34) (.bool true) rfl (by rfl) (by kernel_rfl) (by kernel_rfl) (by kernel_rfl) (fun _ _ _ h => h) (Or.inl ⟨by kernel_rfl, (fun w _ => by go_simp)⟩) HS.out ?_
      simp only [Act.put, List.setIfInBounds_toArray, List.set_cons_zero, List.set_cons_succ]
      refine any_take (i := 18) (some 35) (.bool true) rfl (by rfl) (by kernel_rfl) (by kernel_rfl) (by kernel_rfl) (fun _ _ _ h => h) (Or.inl ⟨by kernel_rfl, (fun w _ => by go_simp)⟩) HS.out ?_
      simp only [Act.put, List.setIfInBounds_toArray, List.set_cons_zero, List.set_cons_succ]
      refine any_take (i := 19) (some 36) (.bool true) rfl (by rfl) (by kernel_rfl) (by kernel_rfl) (by kernel_rfl) (fun _ _ _ h => h) (Or.inl ⟨by kernel_rfl, (fun w _ => by go_simp)⟩) HS.out ?_
      simp only [Act.put, List.setIfInBounds_toArray, List.set_cons_zero, List.set_cons_succ]
      refine any_take (i := 20) (some 37) (.agg #[.int .i64 k, .int .i64 n, .slice u1 u2 u3]) rfl (by rfl) (by kernel_rfl) (by kernel_rfl) (by kernel_rfl) (fun _ _ _ h => h) (Or.inl ⟨by kernel_rfl, (fun w hw => by obtain ⟨d0, d1, d2, d3, d4, d5⟩ := HX.out w hw; go_simp)⟩) HS.out ?_
      simp only [Act.put, List.setIfInBounds_toArray, List.set_cons_zero, List.set_cons_succ]
      refine any_take (i := 23) (some 40) v7 rfl (by rfl) (by kernel_rfl) (by kernel_rfl) (by kernel_rfl) (fun _ _ _ h => h) (Or.inl ⟨by kernel_rfl, (fun w _ => by go_simp)⟩) HS.out ?_
      simp only [Act.put, List.setIfInBounds_toArray, List.set_cons_zero, List.set_cons_succ]
      refine any_op_d (i := 21) (some 38) (v := .slice (some ⟨wb6.heap.size, 0, none⟩) 1 1) (w' := World.alloc wb6 (.cells #[.int .i64 k, .int .i64 n, .slice u1 u2 u3] 24)) rfl (by rfl) (by kernel_rfl) (by kernel_rfl) (by go_simp) HS.out ((Below.refl _ _).alloc (Nat.le_refl _) _) ?_
      intro hsn
      have hl1 := Lib.hid (show TyV (World.alloc wb6 (.cells #[.int .i64 k, .int .i64 n, .slice u1 u2 u3] 24)).heap.size (World.alloc wb6 (.cells #[.int .i64 k, .int .i64 n, .slice u1 u2 u3] 24)) (.cons k n (u1, u2, u3) F .nil) (.slice (some ⟨wb6.heap.size, 0, none⟩) 1 1) from one_list (k := k) (n := n) (u := (u1, u2, u3)) (TYF.out _ HS.out))
      have R7' := Lib.hid (Rd.alloc R7.out (.cells #[.int .i64 k, .int .i64 n, .slice u1 u2 u3] 24))
      have HSN := Lib.hid hsn
      clear R7 HS hsn
      have R7 := R7'
      have HS := HSN
      clear R7' HSN
      simp only [Act.put, List.setIfInBounds_toArray, List.set_cons_zero, List.set_cons_succ]
      refine any_one_d (i := 22) (some 39) rfl (by rfl) (by kernel_rfl) (by kernel_rfl) (by go_simp) HS.out (CV1.out _ _ hl1.out) ?_
      rintro v wb8 hbn hsn hR39
      have HSN := Lib.hid (show LS W0 wb8 from hsn)
      have R7' := Lib.hid (Rd.below R7.out hbn)
      clear R7
      have R7 := R7'
      clear R7'
      have R39 := Lib.hid hR39
      clear hR39
      clear HS hbn hsn
      have HS := HSN
      clear HSN
      simp only [Act.put, List.setIfInBounds_toArray, List.set_cons_zero, List.set_cons_succ]
      refine any_one_d (i := 24) (some 41) rfl (by rfl) (by kernel_rfl) (by kernel_rfl) (by go_simp) HS.out (CI.out L _ _ _ (by omega) R39.out R7.out) ?_
      rintro v wb9 hbn hsn rfl
      have HSN := Lib.hid (show LS W0 wb9 from hsn)
      have R7' := Lib.hid (Rd.below R7.out hbn)
      clear R7
      have R7 := R7'
      clear R7'
      clear HS hbn hsn
      have HS := HSN
      clear HSN
      simp only [Act.put, List.setIfInBounds_toArray, List.set_cons_zero, List.set_cons_succ]
      refine any_take (i := 25) (some 42) (.bool true) rfl (by rfl) (by kernel_rfl) (by kernel_rfl) (by kernel_rfl) (fun _ _ _ h => h) (Or.inl ⟨by kernel_rfl, (fun w _ => by go_simp)⟩) HS.out ?_
      simp only [Act.put, List.setIfInBounds_toArray, List.set_cons_zero, List.set_cons_succ]
      refine any_take (i := 26) (some 43) (.bool true) rfl (by rfl) (by kernel_rfl) (by kernel_rfl) (by kernel_rfl) (fun _ _ _ h => h) (Or.inl ⟨by kernel_rfl, (fun w _ => by go_simp)⟩) HS.out ?_
      simp only [Act.put, List.setIfInBounds_toArray, List.set_cons_zero, List.set_cons_succ]
      refine any_take (i := 27) (some 44) (.agg #[.int .i64 k, .int .i64 n, .slice u1 u2 u3]) rfl (by rfl) (by kernel_rfl) (by kernel_rfl) (by kernel_rfl) (fun _ _ _ h => h) (Or.inl ⟨by kernel_rfl, (fun w hw => by obtain ⟨d0, d1, d2, d3, d4, d5⟩ := HX.out w hw; go_simp)⟩) HS.out ?_
      simp only [Act.put, List.setIfInBounds_toArray, List.set_cons_zero, List.set_cons_succ]
      refine any_take (i := 28) (some 45) (.int .i64 x) rfl (by rfl) (by kernel_rfl) (by kernel_rfl) (by kernel_rfl) (fun _ _ _ h => h) (Or.inl ⟨by kernel_rfl, (fun w _ => by go_simp)⟩) HS.out ?_
      simp only [Act.put, List.setIfInBounds_toArray, List.set_cons_zero, List.set_cons_succ]
      refine any_take (i := 30) (some 47) v7 rfl (by rfl) (by kernel_rfl) (by kernel_rfl) (by kernel_rfl) (fun _ _ _ h => h) (Or.inl ⟨by kernel_rfl, (fun w _ => by go_simp)⟩) HS.out ?_
      simp only [Act.put, List.setIfInBounds_toArray, List.set_cons_zero, List.set_cons_succ]
      refine any_take (i := 31) (some 48) (.int .i64 x) rfl (by rfl) (by kernel_rfl) (by kernel_rfl) (by kernel_rfl) (fun _ _ _ h => h) (Or.inl ⟨by kernel_rfl, (fun w _ => by go_simp)⟩) HS.out ?_
      simp only [Act.put, List.setIfInBounds_toArray, List.set_cons_zero, List.set_cons_succ]
      refine any_one_d (i := 29) (some 46) rfl (by rfl) (by kernel_rfl) (by kernel_rfl) (by go_simp) HS.out (CH.out _ HS.out) ?_
      rintro v wb10 hbn hsn rfl
      have HSN := Lib.hid (show LS W0 wb10 from hsn)
      have R7' := Lib.hid (Rd.below R7.out hbn)
      clear R7
      have R7 := R7'
      clear R7'
      clear HS hbn hsn
      have HS := HSN
      clear HSN
      simp only [Act.put, List.setIfInBounds_toArray, List.set_cons_zero, List.set_cons_succ]
      refine any_one_d (i := 32) (some 49) rfl (by rfl) (by kernel_rfl) (by kernel_rfl) (by go_simp) HS.out (CIN.out _ _ R7.out) ?_
      rintro v wb11 hbn hsn rfl
      have HSN := Lib.hid (show LS W0 wb11 from hsn)
      have R7' := Lib.hid (Rd.below R7.out hbn)
      clear R7
      have R7 := R7'
      clear R7'
      clear HS hbn hsn
      have HS := HSN
      clear HSN
      simp only [Act.put, List.setIfInBounds_toArray, List.set_cons_zero, List.set_cons_succ]
      refine any_take (i := 33) (some 50) (.bool true) rfl (by rfl) (by kernel_rfl) (by kernel_rfl) (by kernel_rfl) (fun _ _ _ h => h) (Or.inl ⟨by kernel_rfl, (fun w _ => by go_simp)⟩) HS.out ?_
      simp only [Act.put, List.setIfInBounds_toArray, List.set_cons_zero, List.set_cons_succ]
      refine any_take (i := 34) (some 51) (.bool true) rfl (by rfl) (by kernel_rfl) (by kernel_rfl) (by kernel_rfl) (fun _ _ _ h => h) (Or.inl ⟨by kernel_rfl, (fun w _ => by go_simp)⟩) HS.out ?_
      simp only [Act.put, List.setIfInBounds_toArray, List.set_cons_zero, List.set_cons_succ]
      refine any_take (i := 35) (some 52) (.bool true) rfl (by rfl) (by kernel_rfl) (by kernel_rfl) (by kernel_rfl) (fun _ _ _ h => h) (Or.inl ⟨by kernel_rfl, (fun w _ => by go_simp)⟩) HS.out ?_
      simp only [Act.put, List.setIfInBounds_toArray, List.set_cons_zero, List.set_cons_succ]
      refine any_take (i := 36) (some 53) (.agg #[.int .i64 k, .int .i64 n, .slice u1 u2 u3]) rfl (by rfl) (by kernel_rfl) (by kernel_rfl) (by kernel_rfl) (fun _ _ _ h => h) (Or.inl ⟨by kernel_rfl, (fun w hw => by obtain ⟨d0, d1, d2, d3, d4, d5⟩ := HX.out w hw; go_simp)⟩) HS.out ?_
      simp only [Act.put, List.setIfInBounds_toArray, List.set_cons_zero, List.set_cons_succ]
      refine any_take (i := 37) (some 54) (.agg #[.int .i64 k', .int .i64 n', .slice v1 v2 v3]) rfl (by rfl) (by kernel_rfl) (by kernel_rfl) (by kernel_rfl) (fun _ _ _ h => h) (Or.inl ⟨by kernel_rfl, (fun w hw => by obtain ⟨d0, d1, d2, d3, d4, d5⟩ := HX.out w hw; go_simp)⟩) HS.out ?_
      simp only [Act.put, List.setIfInBounds_toArray, List.set_cons_zero, List.set_cons_succ]
      refine any_take (i := 39) (some 56) (.agg #[.int .i64 k, .int .i64 n, .slice u1 u2 u3]) rfl (by rfl) (by kernel_rfl) (by kernel_rfl) (by kernel_rfl) (fun _ _ _ h => h) (Or.inl ⟨by kernel_rfl, (fun w hw => by obtain ⟨d0, d1, d2, d3, d4, d5⟩ := HX.out w hw; go_simp)⟩) HS.out ?_
      simp only [Act.put, List.setIfInBounds_toArray, List.set_cons_zero, List.set_cons_succ]
      refine any_take (i := 40) (some 57) (.agg #[.int .i64 k', .int .i64 n', .slice v1 v2 v3]) rfl (by rfl) (by kernel_rfl) (by kernel_rfl) (by kernel_rfl) (fun _ _ _ h => h) (Or.inl ⟨by kernel_rfl, (fun w hw => by obtain ⟨d0, d1, d2, d3, d4, d5⟩ := HX.out w hw; go_simp)⟩) HS.out ?_
      simp only [Act.put, List.setIfInBounds_toArray, List.set_cons_zero, List.set_cons_succ]
      refine any_one_d (i := 38) (some 55) rfl (by rfl) (by kernel_rfl) (by kernel_rfl) (by go_simp) HS.out (CSM.out _ HS.out) ?_
      rintro v wb12 hbn hsn rfl
      have HSN := Lib.hid (show LS W0 wb12 from hsn)
      have R7' := Lib.hid (Rd.below R7.out hbn)
      clear R7
      have R7 := R7'
      clear R7'
      clear HS hbn hsn
      have HS := HSN
      clear HSN
      simp only [Act.put, List.setIfInBounds_toArray, List.set_cons_zero, List.set_cons_succ]
      refine any_one_d (i := 41) (some 58) rfl (by rfl) (by kernel_rfl) (by kernel_rfl) (by go_simp) HS.out (CRSM.out _ HS.out) ?_
      rintro v wb13 hbn hsn rfl
      have HSN := Lib.hid (show LS W0 wb13 from hsn)
      have R7' := Lib.hid (Rd.below R7.out hbn)
      clear R7
      have R7 := R7'
      clear R7'
      clear HS hbn hsn
      have HS := HSN
      clear HSN
      simp only [Act.put, List.setIfInBounds_toArray, List.set_cons_zero, List.set_cons_succ]
      refine any_take (i := 42) (some 59) (.bool true) rfl (by rfl) (by kernel_rfl) (by kernel_rfl) (by kernel_rfl) (fun _ _ _ h => h) (Or.inl ⟨by kernel_rfl, (fun w _ => by go_simp)⟩) HS.out ?_
      simp only [Act.put, List.setIfInBounds_toArray, List.set_cons_zero, List.set_cons_succ]
      refine any_take (i := 43) (some 60) (.bool true) rfl (by rfl) (by kernel_rfl) (by kernel_rfl) (by kernel_rfl) (fun _ _ _ h => h) (Or.inl ⟨by kernel_rfl, (fun w _ => by go_simp)⟩) HS.out ?_
      simp only [Act.put, List.setIfInBounds_toArray, List.set_cons_zero, List.set_cons_succ]
      refine any_take (i := 44) (some 61) (.bool true) rfl (by rfl) (by kernel_rfl) (by kernel_rfl) (by kernel_rfl) (fun _ _ _ h => h) (Or.inl ⟨by kernel_rfl, (fun w _ => by go_simp)⟩) HS.out ?_
      simp only [Act.put, List.setIfInBounds_toArray, List.set_cons_zero, List.set_cons_succ]
      refine any_take (i := 45) (some 62) (.agg #[.int .i64 k, .int .i64 n, .slice u1 u2 u3]) rfl (by rfl) (by kernel_rfl) (by kernel_rfl) (by kernel_rfl) (fun _ _ _ h => h) (Or.inl ⟨by kernel_rfl, (fun w hw => by obtain ⟨d0, d1, d2, d3, d4, d5⟩ := HX.out w hw; go_simp)⟩) HS.out ?_
      simp only [Act.put, List.setIfInBounds_toArray, List.set_cons_zero, List.set_cons_succ]
      refine any_take (i := 46) (some 63) (.agg #[.int .i64 k, .int .i64 n, .slice u1 u2 u3]) rfl (by rfl) (by kernel_rfl) (by kernel_rfl) (by kernel_rfl) (fun _ _ _ h => h) (Or.inl ⟨by kernel_rfl, (fun w hw => by obtain ⟨d0, d1, d2, d3, d4, d5⟩ := HX.out w hw; go_simp)⟩) HS.out ?_
      simp only [Act.put, List.setIfInBounds_toArray, List.set_cons_zero, List.set_cons_succ]
      refine any_one_d (i := 47) (some 64) rfl (by rfl) (by kernel_rfl) (by kernel_rfl) (by go_simp) HS.out (CSS.out _ HS.out) ?_
      rintro v wb14 hbn hsn rfl
      have HSN := Lib.hid (show LS W0 wb14 from hsn)
      have R7' := Lib.hid (Rd.below R7.out hbn)
      clear R7
      have R7 := R7'
      clear R7'
      clear HS hbn hsn
      have HS := HSN
      clear HSN
      simp only [Act.put, List.setIfInBounds_toArray, List.set_cons_zero, List.set_cons_succ]
      refine any_take (i := 48) (some 65) (.bool true) rfl (by rfl) (by kernel_rfl) (by kernel_rfl) (by kernel_rfl) (fun _ _ _ h => h) (Or.inl ⟨by kernel_rfl, (fun w _ => by go_simp)⟩) HS.out ?_
      simp only [Act.put, List.setIfInBounds_toArray, List.set_cons_zero, List.set_cons_succ]
      refine any_take (i := 49) (some 66) (.bool true) rfl (by rfl) (by kernel_rfl) (by kernel_rfl) (by kernel_rfl) (fun _ _ _ h => h) (Or.inl ⟨by kernel_rfl, (fun w _ => by go_simp)⟩) HS.out ?_
      simp only [Act.put, List.setIfInBounds_toArray, List.set_cons_zero, List.set_cons_succ]
      refine any_take (i := 50) (some 67) (.agg #[.int .i64 k, .int .i64 n, .slice u1 u2 u3]) rfl (by rfl) (by kernel_rfl) (by kernel_rfl) (by kernel_rfl) (fun _ _ _ h => h) (Or.inl ⟨by kernel_rfl, (fun w hw => by obtain ⟨d0, d1, d2, d3, d4, d5⟩ := HX.out w hw; go_simp)⟩) HS.out ?_
      simp only [Act.put, List.setIfInBounds_toArray, List.set_cons_zero, List.set_cons_succ]
      refine any_take (i := 52) (some 69) (.agg #[.int .i64 k, .int .i64 n, .slice u1 u2 u3]) rfl (by rfl) (by kernel_rfl) (by kernel_rfl) (by kernel_rfl) (fun _ _ _ h => h) (Or.inl ⟨by kernel_rfl, (fun w hw => by obtain ⟨d0, d1, d2, d3, d4, d5⟩ := HX.out w hw; go_simp)⟩) HS.out ?_
      simp only [Act.put, List.setIfInBounds_toArray, List.set_cons_zero, List.set_cons_succ]
      refine any_one_d (i := 51) (some 68) rfl (by rfl) (by kernel_rfl) (by kernel_rfl) (by go_simp) HS.out (CC.out _ HS.out) ?_
      rintro v wb15 hbn hsn ⟨⟨a1, a2, a3⟩, g68, rfl, hi68, hT68⟩
      have HSN := Lib.hid (show LS W0 wb15 from hsn)
      have R7' := Lib.hid (Rd.below R7.out hbn)
      clear R7
      have R7 := R7'
      clear R7'
      have HI68 := Lib.hid hi68
      have HT68 := Lib.hid hT68
      clear hi68 hT68
      dsimp only [slv]
      clear HS hbn hsn
      have HS := HSN
      clear HSN
      simp only [Act.put, List.setIfInBounds_toArray, List.set_cons_zero, List.set_cons_succ]
      refine any_one_d (i := 53) (some 70) rfl (by rfl) (by kernel_rfl) (by kernel_rfl) (by go_simp) HS.out (CCS.out _ a1 a2 a3 g68 HS.out HI68.out HT68.out) ?_
      rintro v wb16 hbn hsn rfl
      have HSN := Lib.hid (show LS W0 wb16 from hsn)
      have R7' := Lib.hid (Rd.below R7.out hbn)
      clear R7
      have R7 := R7'
      clear R7'
      clear HS hbn hsn
      have HS := HSN
      clear HSN
      simp only [Act.put, List.setIfInBounds_toArray, List.set_cons_zero, List.set_cons_succ]
      refine any_take (i := 54) (some 71) (.bool true) rfl (by rfl) (by kernel_rfl) (by kernel_rfl) (by kernel_rfl) (fun _ _ _ h => h) (Or.inl ⟨by kernel_rfl, (fun w _ => by go_simp)⟩) HS.out ?_
      simp only [Act.put, List.setIfInBounds_toArray, List.set_cons_zero, List.set_cons_succ]
      refine any_take (i := 55) (some 72) (.bool true) rfl (by rfl) (by kernel_rfl) (by kernel_rfl) (by kernel_rfl) (fun _ _ _ h => h) (Or.inl ⟨by kernel_rfl, (fun w _ => by go_simp)⟩) HS.out ?_
      simp only [Act.put, List.setIfInBounds_toArray, List.set_cons_zero, List.set_cons_succ]
      refine any_take (i := 56) (some 73) (.agg #[.int .i64 k, .int .i64 n, .slice u1 u2 u3]) rfl (by rfl) (by kernel_rfl) (by kernel_rfl) (by kernel_rfl) (fun _ _ _ h => h) (Or.inl ⟨by kernel_rfl, (fun w hw => by obtain ⟨d0, d1, d2, d3, d4, d5⟩ := HX.out w hw; go_simp)⟩) HS.out ?_
      simp only [Act.put, List.setIfInBounds_toArray, List.set_cons_zero, List.set_cons_succ]
      refine any_take (i := 57) (some 74) (.agg #[.int .i64 k', .int .i64 n', .slice v1 v2 v3]) rfl (by rfl) (by kernel_rfl) (by kernel_rfl) (by kernel_rfl) (fun _ _ _ h => h) (Or.inl ⟨by kernel_rfl, (fun w hw => by obtain ⟨d0, d1, d2, d3, d4, d5⟩ := HX.out w hw; go_simp)⟩) HS.out ?_
      simp only [Act.put, List.setIfInBounds_toArray, List.set_cons_zero, List.set_cons_succ]
      refine any_take (i := 60) (some 77) (.agg #[.int .i64 k', .int .i64 n', .slice v1 v2 v3]) rfl (by rfl) (by kernel_rfl) (by kernel_rfl) (by kernel_rfl) (fun _ _ _ h => h) (Or.inl ⟨by kernel_rfl, (fun w hw => by obtain ⟨d0, d1, d2, d3, d4, d5⟩ := HX.out w hw; go_simp)⟩) HS.out ?_
      simp only [Act.put, List.setIfInBounds_toArray, List.set_cons_zero, List.set_cons_succ]
      refine any_take (i := 61) (some 78) v7 rfl (by rfl) (by kernel_rfl) (by kernel_rfl) (by kernel_rfl) (fun _ _ _ h => h) (Or.inl ⟨by kernel_rfl, (fun w _ => by go_simp)⟩) HS.out ?_
      simp only [Act.put, List.setIfInBounds_toArray, List.set_cons_zero, List.set_cons_succ]
      refine any_op_d (i := 58) (some 75) (v := .slice (some ⟨wb16.heap.size, 0, none⟩) 2 2) (w' := World.alloc wb16 (.cells #[.int .i64 k, .int .i64 n, .slice u1 u2 u3, .int .i64 k', .int .i64 n', .slice v1 v2 v3] 24)) rfl (by rfl) (by kernel_rfl) (by kernel_rfl) (by go_simp) HS.out ((Below.refl _ _).alloc (Nat.le_refl _) _) ?_
      intro hsn
      have hl2 := Lib.hid (show TyV (World.alloc wb16 (.cells #[.int .i64 k, .int .i64 n, .slice u1 u2 u3, .int .i64 k', .int .i64 n', .slice v1 v2 v3] 24)).heap.size (World.alloc wb16 (.cells #[.int .i64 k, .int .i64 n, .slice u1 u2 u3, .int .i64 k', .int .i64 n', .slice v1 v2 v3] 24)) (.cons k n (u1, u2, u3) F (.cons k' n' (v1, v2, v3) G .nil)) (.slice (some ⟨wb16.heap.size, 0, none⟩) 2 2) from two_list (k := k) (n := n) (k' := k') (n' := n') (u := (u1, u2, u3)) (u' := (v1, v2, v3)) (TYF.out _ HS.out) (TYG.out _ HS.out))
      have R7' := Lib.hid (Rd.alloc R7.out (.cells #[.int .i64 k, .int .i64 n, .slice u1 u2 u3, .int .i64 k', .int .i64 n', .slice v1 v2 v3] 24))
      have HSN := Lib.hid hsn
      clear R7 HS hsn
      have R7 := R7'
      have HS := HSN
      clear R7' HSN
      simp only [Act.put, List.setIfInBounds_toArray, List.set_cons_zero, List.set_cons_succ]
      refine any_one_d (i := 59) (some 76) rfl (by rfl) (by kernel_rfl) (by kernel_rfl) (by go_simp) HS.out (CV2.out _ _ hl2.out) ?_
      rintro v wb18 hbn hsn hR76
      have HSN := Lib.hid (show LS W0 wb18 from hsn)
      have R7' := Lib.hid (Rd.below R7.out hbn)
      clear R7
      have R7 := R7'
      clear R7'
      have R76 := Lib.hid hR76
      clear hR76
      clear HS hbn hsn
      have HS := HSN
      clear HSN
      simp only [Act.put, List.setIfInBounds_toArray, List.set_cons_zero, List.set_cons_succ]
      refine any_one_d (i := 62) (some 79) rfl (by rfl) (by kernel_rfl) (by kernel_rfl) (by go_simp) HS.out (CRV2.out _ _ HS.out R7.out) ?_
      rintro v wb19 hbn hsn hR79
      have HSN := Lib.hid (show LS W0 wb19 from hsn)
      have R76' := Lib.hid (Rd.below R76.out hbn)
      have R79 := Lib.hid hR79
      clear hR79 R7 R76
      have R76 := R76'
      clear R76'
      clear HS hbn hsn
      have HS := HSN
      clear HSN
      simp only [Act.put, List.setIfInBounds_toArray, List.set_cons_zero, List.set_cons_succ]
      refine any_one_d (i := 63) (some 80) rfl (by rfl) (by kernel_rfl) (by kernel_rfl) (by go_simp) HS.out (CI.out M _ _ _ (by omega) R76.out R79.out) ?_
      rintro v wb20 hbn hsn rfl
      have HSN := Lib.hid (show LS W0 wb20 from hsn)
      clear HS hbn hsn
      have HS := HSN
      clear HSN
      simp only [Act.put, List.setIfInBounds_toArray, List.set_cons_zero, List.set_cons_succ]
      refine any_take (i := 64) (some 81) (.bool true) rfl (by rfl) (by kernel_rfl) (by kernel_rfl) (by kernel_rfl) (fun _ _ _ h => h) (Or.inl ⟨by kernel_rfl, (fun w _ => by go_simp)⟩) HS.out ?_
      simp only [Act.put, List.setIfInBounds_toArray, List.set_cons_zero, List.set_cons_succ]
      refine any_take (i := 65) (some 82) (.bool true) rfl (by rfl) (by kernel_rfl) (by kernel_rfl) (by kernel_rfl) (fun _ _ _ h => h) (Or.inl ⟨by kernel_rfl, (fun w _ => by go_simp)⟩) HS.out ?_
      simp only [Act.put, List.setIfInBounds_toArray, List.set_cons_zero, List.set_cons_succ]
      refine any_one_d (i := 66) (some 83) rfl (by rfl) (by kernel_rfl) (by kernel_rfl) (by go_simp) HS.out (CA.out _ HS.out) ?_
      rintro v wb21 hbn hsn rfl
      have HSN := Lib.hid (show LS W0 wb21 from hsn)
      clear HS hbn hsn
      have HS := HSN
      clear HSN
      simp only [Act.put, List.setIfInBounds_toArray, List.set_cons_zero, List.set_cons_succ]
      refine any_take (i := 67) (some 84) (.bool true) rfl (by rfl) (by kernel_rfl) (by kernel_rfl) (by kernel_rfl) (fun _ _ _ h => h) (Or.inl ⟨by kernel_rfl, (fun w _ => by go_simp)⟩) HS.out ?_
      simp only [Act.put, List.setIfInBounds_toArray, List.set_cons_zero, List.set_cons_succ]
      refine any_take (i := 68) (some 6) (.bool true) rfl (by rfl) (by kernel_rfl) (by kernel_rfl) (by kernel_rfl) (fun _ _ _ h => h) (Or.inl ⟨by kernel_rfl, (fun w _ => by go_simp)⟩) HS.out ?_
      simp only [Act.put, List.setIfInBounds_toArray, List.set_cons_zero, List.set_cons_succ]
      refine wpAnyH_done (by kernel_rfl) ?_ _
      go_wp2_with fail
      exact bodyPost_ret (results_tmp rfl _ _ _) rfl ⟨rfl, FIN.out _ HS.out⟩
end Go.Proofs.YtagdpohgicihnaaDoor
