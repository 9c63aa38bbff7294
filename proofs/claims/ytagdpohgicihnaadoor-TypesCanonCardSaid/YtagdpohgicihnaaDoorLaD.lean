/- TypesCanon. -/
import Derived.Test.YtagdpohgicihnaaDoorAwB
import Derived.Test.YtagdpohgicihnaaDoorTyO
import Derived.Test.YtagdpohgicihnaaDoorCaC
import Derived.Test.YtagdpohgicihnaaDoorCaD
import Derived.Test.YtagdpohgicihnaaDoorTxB
import Derived.Test.YtagdpohgicihnaaDoorRgn
import Derived.Test.YtagdpohgicihnaaDoorTyJ
import Derived.Test.YtagdpohgicihnaaDoorLaA
import Derived.Test.YtagdpohgicihnaaDoorPrG
namespace Go.Proofs.YtagdpohgicihnaaDoor
open Go.RowKit Go.Shelf

theorem img_of_same {f g : Fo} (h : f.same g = true) : Img idn f g := by
  induction f generalizing g with
  | nil => cases g <;> simp_all [Fo.same, Img]
  | cons k n u ps r ih1 ih2 =>
    cases g with
    | nil => simp [Fo.same] at h
    | cons k' n' u' ps' r' =>
      simp only [Fo.same, Bool.and_eq_true, beq_iff_eq] at h
      exact ⟨h.1.1.1.symm, by rw [nm_id]; exact h.1.1.2.symm, ih1 h.1.2, ih2 h.2⟩
theorem Img.wf {f : Int → Int} {F G : Fo} (h : Img f F G) (hF : F.wf) (hf : ∀ m, (Lit.int .i64 m).wf = true → (Lit.int .i64 (f m)).wf = true) : G.wf := by
  induction F generalizing G with
  | nil => cases G <;> simp_all [Img, Fo.wf]
  | cons k n u ps r ih1 ih2 =>
    cases G with
    | nil => simp [Img] at h
    | cons k' n' u' ps' r' =>
      refine ⟨?_, ih1 h.2.2.1 hF.2.1, ih2 h.2.2.2 hF.2.2⟩
      rw [h.2.1]
      unfold nm
      split
      · exact hf n hF.1
      · exact hF.1
theorem idx_bd (L : List Int) (n : Int) : 0 ≤ idx L n ∧ idx L n ≤ L.length := by
  induction L with
  | nil => simp [idx]
  | cons a r ih =>
    unfold idx
    rw [List.length_cons]
    split
    · omega
    · split <;> omega
theorem wf_i64 (n : Int) (h0 : -9223372036854775808 ≤ n) (h1 : n ≤ 9223372036854775807) : (Lit.int .i64 n).wf = true := by
  have e1 : IntKind.i64.min = -9223372036854775808 := by decide
  have e2 : IntKind.i64.max = 9223372036854775807 := by decide
  simp only [Lit.wf, Bool.and_eq_true, decide_eq_true_eq]
  omega
theorem idx_wf (L : List Int) (hl : L.length ≤ 100000) (n : Int) : (Lit.int .i64 (idx L n)).wf = true := by
  have := idx_bd L n
  exact wf_i64 _ (by omega) (by omega)
theorem shn_wf (fr tt b n : Int) (h : (Lit.int .i64 n).wf = true) : (Lit.int .i64 (shn fr tt b n)).wf = true := by
  unfold shn
  simp only
  split
  · rename_i h2
    simp only [Bool.and_eq_true, decide_eq_true_eq] at h2
    exact wf_i64 _ (by omega) (by omega)
  · exact h
/-- Shift, of numbers up to a greatest one, is a sum. -/
theorem shn_eq (top b a : Int) (ha : 0 ≤ a) (hat : a ≤ top) (hb : 0 ≤ b) (ht : top + b < 1073741824) : shn 0 (top + 1) b a = a + b := by
  have hw : wrap64 (a + b) = a + b := by
    unfold wrap64
    omega
  unfold shn
  simp only [hw]
  rw [if_pos]
  simp only [Bool.and_eq_true, decide_eq_true_eq]
  omega
theorem shn_inj (top b : Int) (hb : 0 ≤ b) (ht : top + b < 1073741824) (a c : Int) (ha : 0 ≤ a ∧ a ≤ top) (hc : 0 ≤ c ∧ c ≤ top) (h : shn 0 (top + 1) b a = shn 0 (top + 1) b c) : a = c := by
  rw [shn_eq top b a ha.1 ha.2 hb ht, shn_eq top b c hc.1 hc.2 hb ht] at h
  omega
/-- Two types that are the same have the same text. -/
theorem same_txt {k n : Int} {A B : Fo} (h : A.same B = true) : (if alone k n A.len && A.ok then oneT k n A.txts else []) = (if alone k n B.len && B.ok then oneT k n B.txts else []) := by
  have hi := img_of_same h
  rw [Fo.same_len _ _ h, hi.txts, hi.ok]
/-- A right type's variables are numbers. -/
theorem vars_nonneg {k n : Int} {F : Fo} (h1 : alone k n F.len = true) (h2 : F.ok = true) : ∀ a ∈ varsL [] ((k, n, ((none, 0, 0) : Sl)) :: F.pre), 0 ≤ a ∧ a < 1073741824 := by
  have key : ∀ (F : Fo), F.ok = true → ∀ x ∈ F.pre, x.1 = 1 → 0 ≤ x.2.1 ∧ x.2.1 < 1073741824 := by
    intro F
    induction F with
    | nil => intro _ x hx; cases hx
    | cons k n u ps r ih1 ih2 =>
      intro h x hx e
      simp only [Fo.ok, Bool.and_eq_true] at h
      simp only [Fo.pre, List.mem_cons, List.mem_append] at hx
      rcases hx with rfl | hx | hx
      · have h3 := h.1.1
        simp only at e
        subst e
        simp [alone] at h3
        exact ⟨h3.1.1, h3.1.2⟩
      · exact ih1 h.1.2 x hx e
      · exact ih2 h.2 x hx e
  have main : ∀ (P : List Tr) (l : List Int), (∀ a ∈ l, 0 ≤ a ∧ a < 1073741824) → (∀ x ∈ P, x.1 = 1 → 0 ≤ x.2.1 ∧ x.2.1 < 1073741824) → ∀ a ∈ varsL l P, 0 ≤ a ∧ a < 1073741824 := by
    intro P
    induction P with
    | nil => intro l hl _; exact hl
    | cons y r ih =>
      intro l hl hP
      refine ih (addV l y) ?_ (fun x hx => hP x (List.mem_cons_of_mem _ hx))
      unfold addV
      split
      · rename_i hy
        intro a ha
        rcases List.mem_append.1 ha with ha | ha
        · exact hl a ha
        · obtain rfl : a = y.2.1 := by simpa using ha
          exact hP y (List.mem_cons_self ..) hy.1
      · exact hl
  refine main _ [] (by simp) fun x hx e => ?_
  rcases List.mem_cons.1 hx with rfl | hx
  · simp only at e
    subst e
    simp [alone] at h1
    exact ⟨h1.1.1, h1.1.2⟩
  · exact key F h2 x hx e

/-- A type that comes of another one by a function of its numbers, in memory. -/
def Came (f : Int → Int) (k n : Int) (F : Fo) (v : Value) (w : World) : Prop := ∃ (uc : Sl) (g : Fo), v = .agg #[.int .i64 k, .int .i64 (nm f k n), slv uc] ∧ Img f F g ∧ TyV w.heap.size w g (slv uc)
/-- A type that is the same as one, in memory. -/
def SameAs (k n : Int) (C : Fo) (v : Value) (w : World) : Prop := ∃ (uc : Sl) (g : Fo), v = .agg #[.int .i64 k, .int .i64 n, slv uc] ∧ g.same C = true ∧ TyV w.heap.size w g (slv uc)
theorem same_size {f g : Fo} (h : f.same g = true) : f.size = g.size := (img_of_same h).size.symm
set_option maxRecDepth 100000 in
set_option maxHeartbeats 4000000 in
theorem canons_any (w : World) (k n b : Int) (u : Sl) (F : Fo) (hF : TyV w.heap.size w F (slv u)) (hwF : F.wf) (hn : (Lit.int .i64 n).wf = true) (hb : 0 ≤ b ∧ b ≤ 65535) (ht : Tab w) :
    Calls Tryd.prog 6 #[tyVal k n (slv u), .int .u16 b] w fun e w' => e = .returned (.bool true) ∧ Below w.heap.size w w' := by
  obtain ⟨W0, hW0⟩ : ∃ W0, w.alloc (.cells #[.int .i64 k, .int .i64 n, slv u] 24) = W0 := ⟨_, rfl⟩
  have hb0 : Below w.heap.size w W0 := by rw [← hW0]; exact (Below.refl _ _).alloc (Nat.le_refl _) _
  have hx0 : W0.heap[w.heap.size]? = some (Obj.cells #[.int .i64 k, .int .i64 n, slv u] 24) := by rw [← hW0]; exact heap_alloc_new w _
  have hl : w.heap.size < W0.heap.size := (Array.getElem?_eq_some_iff.1 hx0).1
  have ht0 := Lib.hid (ht.below hb0)
  have hF0 : TyV W0.heap.size W0 F (slv u) := hF.keep hb0.size fun b off hlt => hb0.cell (p := ⟨b, off, none⟩) hlt
  have HX := Lib.hid (show ∀ W, LS W0 W → W.cell? ⟨w.heap.size, 0, none⟩ = some (.int .i64 k) ∧ W.cell? ⟨w.heap.size, 1, none⟩ = some (.int .i64 n) ∧ W.cell? ⟨w.heap.size, 2, none⟩ = some (slv u) from fun W hb =>
    have h1 := (Below.block hb _ hl).trans hx0
    ⟨cell_of_row W _ 0 _ _ (0, 0) h1, cell_of_row W _ 1 _ _ (0, 0) h1, cell_of_row W _ 2 _ _ (0, 0) h1⟩)
  have TYF := Lib.hid (show ∀ W, LS W0 W → TyV W.heap.size W F (slv u) from fun W hb => hF0.keep (Below.size hb) fun b off hlt => Below.cell hb (p := ⟨b, off, none⟩) hlt)
  obtain ⟨gb, hgb⟩ : ∃ gb, (!(decide (1 + F.size ≤ 300) && decide (1 + F.depth ≤ 40))) = gb := ⟨_, rfl⟩
  have haok := allAlone_ok F hF.list
  obtain ⟨okb, hok⟩ : ∃ okb, (alone k n F.len && F.ok) = okb := ⟨_, rfl⟩
  have HGR := Lib.hid (show ∀ W, LS W0 W → Calls Tryd.prog 10 #[tyVal k n (slv u)] W fun e w' => e = .returned (.bool gb) ∧ Below W.heap.size W w' from fun W h => hgb ▸ great_any F k n (slv u) W (TYF.out W h))
  have HRR := Lib.hid (show F.size ≤ 1000000 → ∀ W, LS W0 W → Calls Tryd.prog 14 #[tyVal k n (slv u)] W fun e w' => e = .returned (.bool okb) ∧ Below W.heap.size W w' from fun hs W h => by
    have := rright_any _ F k n (slv u) W (Nat.lt_succ_self _) hs (TYF.out W h)
    rwa [haok, hok] at this)
  have HAW := Lib.hid (fun W (hb : LS W0 W) => awake_any W (ht0.out.below hb))
  have FIN := Lib.hid (show ∀ W : World, LS W0 W → Below w.heap.size w W from fun W h => hb0.trans (Below.mono h hb0.size))
  have HGB := Lib.hid hgb
  have HOK := Lib.hid hok
  obtain ⟨u1, u2, u3⟩ := u
  dsimp only [tyVal, slv] at HX TYF HGR HRR hW0 ⊢
  obtain ⟨x0, x1, x2⟩ := HX.out W0 (Below.refl _ _)
  clear hgb haok hok hb0 hx0 ht hF hF0
  go_enter Tryd.func6, Tryd.ntmps6
  cases gb with
  | true =>
    go_wp2_with (first
      | (go_at_call 10; refine (HGR.out _ (Below.refl _ _)).mono ?_; rintro e w2 ⟨rfl, hb2⟩; have HB2 := Lib.hid (show LS W0 w2 from hb2); clear hb2)
      | (go_at_call 11; refine (HAW.out w2 HB2.out).mono ?_; rintro e w3 ⟨rfl, hb3⟩)
      | fail)
    go_ret
    exact ⟨rfl, FIN.out _ (HB2.out.step hb3)⟩
  | false =>
    have hs : F.size ≤ 299 := by
      have := HGB.out
      simp at this
      omega
    cases okb with
    | false =>
      go_wp2_with (first
        | (go_at_call 11; refine (HAW.out w4 HB4.out).mono ?_; rintro e w5 ⟨rfl, hb5⟩)
        | (go_at_call 14; refine (HRR.out (by omega) w2 HB2.out).mono ?_; rintro e w4 ⟨rfl, hb4⟩; have HB4 := Lib.hid (LS.step HB2.out hb4); clear hb4)
        | (go_at_call 10; refine (HGR.out _ (Below.refl _ _)).mono ?_; rintro e w2 ⟨rfl, hb2⟩; obtain ⟨d0, d1, d2⟩ := HX.out w2 hb2; have HB2 := Lib.hid (show LS W0 w2 from hb2); clear hb2)
        | fail)
      go_ret
      exact ⟨rfl, FIN.out _ (HB4.out.step hb5)⟩
    | true =>
      obtain ⟨hok1, hok2⟩ : alone k n F.len = true ∧ F.ok = true := by simpa using HOK.out
      obtain ⟨L, hL⟩ : ∃ L, varsL [] ((k, n, ((none, 0, 0) : Sl)) :: F.pre) = L := ⟨_, rfl⟩
      have hLn := hL ▸ vars_nonneg hok1 hok2
      have CC := Lib.hid (show ∀ W, LS W0 W → Gives Tryd.prog 29 #[.agg #[.int .i64 k, .int .i64 n, .slice u1 u2 u3]] W (Came (idx L) k n F) from fun W h => (canon_any W k n (u1, u2, u3) F (TYF.out W h) (by omega) hn hwF L hL).mono fun e w' ⟨uc, h1, h2, h3⟩ => ⟨_, h1, by obtain ⟨g, hi, hT⟩ := h3.now; exact ⟨uc, g, rfl, hi, hT⟩, h2⟩)
      go_upto_region 3 with (first
        | (go_at_call 14; refine (HRR.out (by omega) w2 HB2.out).mono ?_; rintro e w4 ⟨rfl, hb4⟩; have HB4 := Lib.hid (LS.step HB2.out hb4); clear hb4)
        | (go_at_call 10; refine (HGR.out _ (Below.refl _ _)).mono ?_; rintro e w2 ⟨rfl, hb2⟩; obtain ⟨d0, d1, d2⟩ := HX.out w2 hb2; have HB2 := Lib.hid (show LS W0 w2 from hb2); clear hb2)
        | fail)
      obtain ⟨e0, e1, e2⟩ := HX.out w4 HB4.out
      clear x0 x1 x2
      try clear d0 d1 d2
      go_wp2_with fail
      refine (CC.out _ HB4.out).mono ?_
      rintro e w5 ⟨v, rfl, ⟨⟨c1, c2, c3⟩, C, rfl, hiC, hTC⟩, hb5⟩
      dsimp only [slv] at hTC ⊢
      have HB5 := Lib.hid (LS.step HB4.out hb5)
      obtain ⟨f0, f1, f2⟩ := HX.out w5 HB5.out
      clear e0 e1 e2 hb5
      go_upto_region 4 with fail
      obtain ⟨W3, hW3⟩ : ∃ W3, w5.alloc (.cells #[.int .i64 k, .int .i64 (nm (idx L) k n), .slice c1 c2 c3] 24) = W3 := ⟨_, rfl⟩
      have hb53 : Below w5.heap.size w5 W3 := by rw [← hW3]; exact (Below.refl _ _).alloc (Nat.le_refl _) _
      have hx3 : W3.heap[w5.heap.size]? = some (Obj.cells #[.int .i64 k, .int .i64 (nm (idx L) k n), .slice c1 c2 c3] 24) := by rw [← hW3]; exact heap_alloc_new w5 _
      have hl3 : w5.heap.size < W3.heap.size := (Array.getElem?_eq_some_iff.1 hx3).1
      have hT3 : TyV W3.heap.size W3 C (.slice c1 c2 c3) := hTC.keep hb53.size fun b off hlt => hb53.cell (p := ⟨b, off, none⟩) hlt
      have HB3 := Lib.hid (HB5.out.step hb53)
      have H0of := Lib.hid (show ∀ W, LS W3 W → LS W0 W from fun W h => Below.trans HB3.out (Below.mono h HB3.out.size))
      have HXC := Lib.hid (show ∀ W, LS W3 W → W.cell? ⟨w5.heap.size, 0, none⟩ = some (.int .i64 k) ∧ W.cell? ⟨w5.heap.size, 1, none⟩ = some (.int .i64 (nm (idx L) k n)) ∧ W.cell? ⟨w5.heap.size, 2, none⟩ = some (.slice c1 c2 c3) from fun W hb =>
        have h1 := (Below.block hb _ hl3).trans hx3
        ⟨cell_of_row W _ 0 _ _ (0, 0) h1, cell_of_row W _ 1 _ _ (0, 0) h1, cell_of_row W _ 2 _ _ (0, 0) h1⟩)
      have TYC := Lib.hid (show ∀ W, LS W3 W → TyV W.heap.size W C (.slice c1 c2 c3) from fun W hb => hT3.keep (Below.size hb) fun b off hlt => Below.cell hb (p := ⟨b, off, none⟩) hlt)
      have HIC := Lib.hid hiC
      obtain ⟨g0, g1, g2⟩ := HX.out W3 HB3.out
      obtain ⟨g3, g4, g5⟩ := HXC.out W3 (Below.refl _ _)
      have hL1 : varsL [] (Fo.cons k n (u1, u2, u3) F .nil).pre = L := by rw [← hL]; simp [Fo.pre, varsL, addV]
      have hV := vars_any (W3.alloc (.cells #[.int .i64 k, .int .i64 n, .slice u1 u2 u3] 24)) _ (.cons k n (u1, u2, u3) F .nil) _ (Nat.le_refl _) (list_one (u := (u1, u2, u3)) (TYF.out W3 HB3.out)) (by simp [Fo.size]; omega) ⟨hn, hwF, trivial⟩
      rw [hL1] at hV
      have HV := Lib.hid hV
      have HLN := Lib.hid hLn
      have HLL := Lib.hid hL
      have hLl : L.length ≤ 1000 := by
        rw [← hL]
        have := varsL_len ((k, n, ((none, 0, 0) : Sl)) :: F.pre) []
        simp [Fo.pre_len] at this
        omega
      rw [hW3]
      clear f0 f1 f2 hx3 hT3 hTC hiC hL1 hV hLn hL hb53 hW3
      try dsimp only [slv] at HV
      go_wp2_with fail
      refine HV.out.mono ?_
      rintro e w6 ⟨v6, rfl, hR6, hb6⟩
      obtain ⟨A6, c6, rfl⟩ := hR6.form
      have hs6 : LS W3 w6 := LS.step (W0 := W3) ((Below.refl W3.heap.size W3).alloc (Nat.le_refl _) _) hb6
      have HB6 := Lib.hid hs6
      obtain ⟨q, hq⟩ : ∃ q, L.length = q := ⟨_, rfl⟩
      have HQ := Lib.hid hq
      have HR := Lib.hid hR6
      rw [hq] at hLl ⊢
      clear g0 g1 g2 g3 g4 g5 hb6 hR6 hq hs6
      go_wp2_with fail
      go_loop [7, 8] (fun t7 t8 => ∃ (j : Nat) (top : Int), j ≤ q ∧ t8 = .int .i64 j ∧ t7 = .int .i64 top ∧ 0 ≤ top ∧ top < 1073741824 ∧ ∀ a ∈ L.take j, a ≤ top) (fun _ t => q - (intOf t).toNat)
      case atStart => exact ⟨0, 0, Nat.zero_le _, rfl, rfl, by omega, by omega, by simp⟩
      case round =>
        obtain ⟨j, top, hj, rfl, rfl, hto0, hto1, hmx⟩ := hrel
        have HMX := Lib.hid hmx
        clear hmx
        by_cases hjl : j < q
        · have hjL : j < L.length := by rw [HQ.out]; exact hjl
          obtain ⟨b', off, cap, hv, _, _, hlt, hc⟩ := HR.out.2.resolve_left (by rintro ⟨h, _⟩; omega)
          injection hv with hA _ hcc
          subst hA; subst hcc
          obtain ⟨x, hx⟩ : ∃ x, L[j] = x := ⟨_, rfl⟩
          have cx : w6.cell? ⟨b', off + j, none⟩ = some (.int .i64 x) := hc j _ (by rw [ints, List.getElem?_map, List.getElem?_eq_getElem hjL, hx]; rfl)
          have hxb := HLN.out x (hx ▸ List.getElem_mem hjL)
          have htk : L.take (j + 1) = L.take j ++ [x] := by rw [← hx]; exact (List.take_append_getElem hjL).symm
          have HTK := Lib.hid htk
          clear htk hc hx hjL
          go_wp2_with fail
          go_round
          case rel =>
            refine ⟨j + 1, max top x, by omega, by go_num, rfl, by omega, by omega, fun a ha => ?_⟩
            rw [HTK.out] at ha
            rcases List.mem_append.1 ha with ha | ha
            · have := HMX.out a ha; omega
            · obtain rfl : a = x := by simpa using ha
              omega
          case measure => simp [intOf]; omega
        · obtain rfl : j = q := by omega
          have hmx : ∀ a ∈ L, a ≤ top := by
            have h := HMX.out
            rw [← HQ.out, List.take_length] at h
            exact h
          have HTOP := Lib.hid hmx
          have CS := Lib.hid (show ∀ W, LS W0 W → Gives Tryd.prog 30 #[.agg #[.int .i64 k, .int .i64 n, .slice u1 u2 u3], .int .i64 0, .int .i64 (top + 1), .int .i64 b] W (Came (shn 0 (top + 1) b) k n F) from fun W h => (shift_any W k n 0 (top + 1) b (u1, u2, u3) F (TYF.out W h) (by omega)).mono fun e w' ⟨uc, h1, h2, h3⟩ => ⟨_, h1, by obtain ⟨g, hi, hT⟩ := h3.now; exact ⟨uc, g, rfl, hi, hT⟩, h2⟩)
          obtain ⟨g0, g1, g2⟩ := HX.out w6 (H0of.out w6 HB6.out)
          obtain ⟨hb1, hb2⟩ := hb
          clear hmx
          go_wp2_with fail
          refine (CS.out _ (H0of.out w6 HB6.out)).mono ?_
          rintro e w7 ⟨v, rfl, ⟨⟨o1, o2, o3⟩, O, rfl, hiO, hTO⟩, hb7⟩
          dsimp only [slv] at hTO ⊢
          have HB7 := Lib.hid (LS.step (W0 := W3) HB6.out hb7)
          have HIO := Lib.hid hiO
          clear g0 g1 g2 hb7 hiO
          obtain ⟨W8, hW8⟩ : ∃ W8, w7.alloc (.cells #[.int .i64 k, .int .i64 (nm (shn 0 (top + 1) b) k n), .slice o1 o2 o3] 24) = W8 := ⟨_, rfl⟩
          have hb78 : Below w7.heap.size w7 W8 := by rw [← hW8]; exact (Below.refl _ _).alloc (Nat.le_refl _) _
          have hx8 : W8.heap[w7.heap.size]? = some (Obj.cells #[.int .i64 k, .int .i64 (nm (shn 0 (top + 1) b) k n), .slice o1 o2 o3] 24) := by rw [← hW8]; exact heap_alloc_new w7 _
          have hT8 : TyV W8.heap.size W8 O (.slice o1 o2 o3) := hTO.keep hb78.size fun b off hlt => hb78.cell (p := ⟨b, off, none⟩) hlt
          have HB8 := Lib.hid (LS.step (W0 := W3) HB7.out hb78)
          go_upto_region 11 with fail
          by_cases hle : top + b < 1073741824
          · have f1 : decide (1073741824 ≤ top + b) = false := decide_eq_false (by omega)
            obtain ⟨f, hf⟩ : ∃ f, f = shn 0 (top + 1) b := ⟨_, rfl⟩
            have Hfi := Lib.hid (show ∀ a ∈ L, ∀ c ∈ L, f a = f c → a = c from fun a ha c hc h => shn_inj top b hb1 hle a c ⟨(HLN.out a ha).1, HTOP.out a ha⟩ ⟨(HLN.out c hc).1, HTOP.out c hc⟩ (hf ▸ h))
            have Hfw := Lib.hid (show ∀ m, (Lit.int .i64 m).wf = true → (Lit.int .i64 (f m)).wf = true from fun m hm => hf ▸ shn_wf 0 (top + 1) b m hm)
            have HIf := Lib.hid (show Img f F O from hf ▸ HIO.out)
            obtain ⟨nO, hnO⟩ : ∃ nO, nm (shn 0 (top + 1) b) k n = nO := ⟨_, rfl⟩
            have HnO := Lib.hid (show nm f k n = nO from hf ▸ hnO)
            rw [hnO] at hx8
            obtain ⟨q1, hq1⟩ : ∃ q1, q1 = o1 := ⟨_, rfl⟩
            obtain ⟨q2, hq2⟩ : ∃ q2, q2 = o2 := ⟨_, rfl⟩
            obtain ⟨q3, hq3⟩ : ∃ q3, q3 = o3 := ⟨_, rfl⟩
            rw [← hq1, ← hq2, ← hq3] at hx8 hT8
            obtain ⟨WX, hWX⟩ : ∃ WX, WX = W8 := ⟨_, rfl⟩
            obtain ⟨OO, hOO⟩ : ∃ OO, OO = O := ⟨_, rfl⟩
            have HXO := Lib.hid (show WX.heap[w7.heap.size]? = some (Obj.cells #[.int .i64 k, .int .i64 nO, .slice q1 q2 q3] 24) from hWX ▸ hx8)
            have HTO := Lib.hid (show TyV WX.heap.size WX OO (.slice q1 q2 q3) from hWX ▸ hOO ▸ hT8)
            have HBX := Lib.hid (show LS W3 WX from hWX ▸ HB8.out)
            have HIf := Lib.hid (show Img f F OO from hOO ▸ HIf.out)
            go_upto_region 13 with fail
            rw [← hWX]
            clear hf hnO hx8 hT8 hb78 hW8 hq1 hq2 hq3 hWX hOO hTO
            have HX3 := Lib.hid (show ∀ W, LS WX W → LS W3 W from fun W h => Below.trans HBX.out (Below.mono h HBX.out.size))
            have HXX := Lib.hid (show ∀ W, LS WX W → W.cell? ⟨w5.heap.size, 0, none⟩ = some (.int .i64 k) ∧ W.cell? ⟨w5.heap.size, 1, none⟩ = some (.int .i64 (nm (idx L) k n)) ∧ W.cell? ⟨w5.heap.size, 2, none⟩ = some (.slice c1 c2 c3) ∧ W.cell? ⟨w7.heap.size, 0, none⟩ = some (.int .i64 k) ∧ W.cell? ⟨w7.heap.size, 1, none⟩ = some (.int .i64 nO) ∧ W.cell? ⟨w7.heap.size, 2, none⟩ = some (.slice q1 q2 q3) from fun W h => by
              obtain ⟨a0, a1, a2⟩ := HXC.out W (HX3.out W h)
              have h1 := (Below.block h _ (Array.getElem?_eq_some_iff.1 HXO.out).1).trans HXO.out
              exact ⟨a0, a1, a2, cell_of_row W _ 0 _ _ (0, 0) h1, cell_of_row W _ 1 _ _ (0, 0) h1, cell_of_row W _ 2 _ _ (0, 0) h1⟩)
            have hCs := HIC.out.size
            have hOs := HIf.out.size
            have hlL : L.length ≤ 100000 := by rw [HQ.out]; omega
            have hwC : C.wf := HIC.out.wf hwF (fun m _ => idx_wf L hlL m)
            have hwnC : (Lit.int .i64 (nm (idx L) k n)).wf = true := by unfold nm; split; exact idx_wf L hlL n; exact hn
            have hwO : OO.wf := HIf.out.wf hwF Hfw.out
            have hwnO : (Lit.int .i64 nO).wf = true := by rw [← HnO.out]; unfold nm; split; exact Hfw.out n hn; exact hn
            have TYO := Lib.hid (show ∀ W, LS WX W → TyV W.heap.size W OO (.slice q1 q2 q3) from fun W hb => HTO.out.keep (Below.size hb) fun b off hlt => Below.cell hb (p := ⟨b, off, none⟩) hlt)
            have KC := Lib.hid (show ∀ W, LS WX W → Gives Tryd.prog 29 #[(.agg #[.int .i64 k, .int .i64 (nm (idx L) k n), .slice c1 c2 c3])] W (SameAs k (nm (idx L) k n) C) from fun W h => (canon_any W k (nm (idx L) k n) (c1, c2, c3) C (TYC.out W (HX3.out W h)) (by omega) hwnC hwC _ rfl).mono fun e w' ⟨uc, h1, h2, h3⟩ => ⟨_, h1, by
              obtain ⟨g, hi, hT⟩ := h3.now
              obtain ⟨e1, e2⟩ := canon_again (k := k) (n := n) HIC.out (fun a ha c hc h => idx_inj L a c (HLL.out ▸ ha) (HLL.out ▸ hc) h) (A := C) (B := g) (HLL.out.symm ▸ HIC.out) hi
              rw [HLL.out] at e1
              exact ⟨uc, g, by rw [e1]; rfl, e2, hT⟩, h2⟩)
            have KO := Lib.hid (show ∀ W, LS WX W → Gives Tryd.prog 29 #[(.agg #[.int .i64 k, .int .i64 nO, .slice q1 q2 q3])] W (SameAs k (nm (idx L) k n) C) from fun W h => (canon_any W k nO (q1, q2, q3) OO (TYO.out W h) (by omega) hwnO hwO _ rfl).mono fun e w' ⟨uc, h1, h2, h3⟩ => ⟨_, h1, by
              obtain ⟨g, hi, hT⟩ := h3.now
              rw [← HnO.out] at hi ⊢
              obtain ⟨e1, e2⟩ := canon_again (k := k) (n := n) HIf.out (fun a ha c hc h => Hfi.out a (HLL.out ▸ ha) c (HLL.out ▸ hc) h) (A := C) (B := g) (HLL.out.symm ▸ HIC.out) hi
              rw [HLL.out] at e1
              exact ⟨uc, g, by rw [e1]; rfl, e2, hT⟩, h2⟩)
            obtain ⟨X, hX⟩ : ∃ X : ByteArray, X = ⟨(if alone k (nm (idx L) k n) C.len && C.ok then oneT k (nm (idx L) k n) C.txts else []).toArray⟩ := ⟨_, rfl⟩
            have PG := Lib.hid (show ∀ W (p1 : Option Addr) (p2 p3 : Nat) g, LS WX W → g.same C = true → TyV W.heap.size W g (.slice p1 p2 p3) → Gives Tryd.prog 26 #[.agg #[.int .i64 k, .int .i64 (nm (idx L) k n), .slice p1 p2 p3]] W (fun v _ => v = .string X) from fun W p1 p2 p3 g h hs' hT => by
              have hp := print_any W k (nm (idx L) k n) (p1, p2, p3) g hT (by have := same_size hs'; omega) (ht0.out.below (H0of.out W (HX3.out W h)))
              rw [same_txt hs', strB, ← hX] at hp
              exact gives_of hp)
            have PC := Lib.hid (show ∀ W, LS WX W → Gives Tryd.prog 26 #[(.agg #[.int .i64 k, .int .i64 (nm (idx L) k n), .slice c1 c2 c3])] W (fun v _ => v = .string X) from fun W h => by
              have hp := print_any W k (nm (idx L) k n) (c1, c2, c3) C (TYC.out W (HX3.out W h)) (by omega) (ht0.out.below (H0of.out W (HX3.out W h)))
              rw [strB, ← hX] at hp
              exact gives_of hp)
            have SG := Lib.hid (show ∀ W (p1 : Option Addr) (p2 p3 : Nat) g, LS WX W → g.same C = true → TyV W.heap.size W g (.slice p1 p2 p3) → Gives Tryd.prog 24 #[.agg #[.int .i64 k, .int .i64 (nm (idx L) k n), .slice p1 p2 p3], (.agg #[.int .i64 k, .int .i64 (nm (idx L) k n), .slice c1 c2 c3])] W (fun v _ => v = .bool true) from fun W p1 p2 p3 g h hs' hT => (show (k == k && nm (idx L) k n == nm (idx L) k n && g.same C) = true by simp [hs']) ▸ gives_of (rsame_any _ g C k (nm (idx L) k n) k (nm (idx L) k n) _ _ W (Nat.lt_succ_self _) (by have := same_size hs'; omega) (by omega) hT (TYC.out W (HX3.out W h))))
            have KA := Lib.hid (show ∀ W, LS WX W → Gives Tryd.prog 11 #[] W (fun v _ => v = .bool true) from fun W h => gives_of (HAW.out W (H0of.out W (HX3.out W h))))
            have HCl := Lib.hid hCs
            clear hCs hOs hlL hwC hwnC hwO hwnO hX
            refine wp_region_held (S := LS WX) (by kernel_rfl) ?_
            change wpAnyH _ _ _ _ _ 22 (List.replicate 22 false).toArray _ WX.drew
            simp only [List.replicate_succ, List.replicate_zero]
            have HS := Lib.hid (show LS WX WX.drew from Below.drew (Below.refl _ _))
            generalize WX.drew = wa at *
            refine any_take (i := 0) (some 47) (.agg #[.int .i64 k, .int .i64 (nm (idx L) k n), .slice c1 c2 c3]) rfl (by rfl) (by kernel_rfl) (by kernel_rfl) (by kernel_rfl) (fun _ _ _ h => h) (Or.inl ⟨by kernel_rfl, (fun w hw => by obtain ⟨d0, d1, d2, d3, d4, d5⟩ := HXX.out w hw; go_simp)⟩) HS.out ?_
            simp only [Act.put, List.setIfInBounds_toArray, List.set_cons_zero, List.set_cons_succ]
            refine any_take (i := 2) (some 49) (.agg #[.int .i64 k, .int .i64 (nm (idx L) k n), .slice c1 c2 c3]) rfl (by rfl) (by kernel_rfl) (by kernel_rfl) (by kernel_rfl) (fun _ _ _ h => h) (Or.inl ⟨by kernel_rfl, (fun w hw => by obtain ⟨d0, d1, d2, d3, d4, d5⟩ := HXX.out w hw; go_simp)⟩) HS.out ?_
            simp only [Act.put, List.setIfInBounds_toArray, List.set_cons_zero, List.set_cons_succ]
            refine any_one_d (i := 1) (some 48) rfl (by rfl) (by kernel_rfl) (by kernel_rfl) (by go_simp) HS.out (KC.out _ HS.out) ?_
            rintro v wr1 hbn hsn ⟨⟨p1, p2, p3⟩, P, rfl, hsP, hTP⟩
            have HSN := Lib.hid (show LS WX wr1 from hsn)
            have HP := Lib.hid (And.intro hsP hTP)
            clear hsP hTP
            dsimp only [slv]
            clear HS hbn hsn
            have HS := HSN
            clear HSN
            simp only [Act.put, List.setIfInBounds_toArray, List.set_cons_zero, List.set_cons_succ]
            refine any_one_d (i := 3) (some 50) rfl (by rfl) (by kernel_rfl) (by kernel_rfl) (by go_simp) HS.out (SG.out _ p1 p2 p3 P HS.out HP.out.1 HP.out.2) ?_
            rintro v wr2 hbn hsn rfl
            have HSN := Lib.hid (show LS WX wr2 from hsn)
            clear HS hbn hsn
            have HS := HSN
            clear HSN
            simp only [Act.put, List.setIfInBounds_toArray, List.set_cons_zero, List.set_cons_succ]
            refine any_take (i := 4) (some 51) (.bool true) rfl (by rfl) (by kernel_rfl) (by kernel_rfl) (by kernel_rfl) (fun _ _ _ h => h) (Or.inl ⟨by kernel_rfl, (fun w _ => by go_simp)⟩) HS.out ?_
            simp only [Act.put, List.setIfInBounds_toArray, List.set_cons_zero, List.set_cons_succ]
            refine any_take (i := 5) (some 52) (.agg #[.int .i64 k, .int .i64 nO, .slice q1 q2 q3]) rfl (by rfl) (by kernel_rfl) (by kernel_rfl) (by kernel_rfl) (fun _ _ _ h => h) (Or.inl ⟨by kernel_rfl, (fun w hw => by obtain ⟨d0, d1, d2, d3, d4, d5⟩ := HXX.out w hw; go_simp)⟩) HS.out ?_
            simp only [Act.put, List.setIfInBounds_toArray, List.set_cons_zero, List.set_cons_succ]
            refine any_take (i := 7) (some 54) (.agg #[.int .i64 k, .int .i64 (nm (idx L) k n), .slice c1 c2 c3]) rfl (by rfl) (by kernel_rfl) (by kernel_rfl) (by kernel_rfl) (fun _ _ _ h => h) (Or.inl ⟨by kernel_rfl, (fun w hw => by obtain ⟨d0, d1, d2, d3, d4, d5⟩ := HXX.out w hw; go_simp)⟩) HS.out ?_
            simp only [Act.put, List.setIfInBounds_toArray, List.set_cons_zero, List.set_cons_succ]
            refine any_one_d (i := 6) (some 53) rfl (by rfl) (by kernel_rfl) (by kernel_rfl) (by go_simp) HS.out (KO.out _ HS.out) ?_
            rintro v wr3 hbn hsn ⟨⟨r1, r2, r3⟩, R, rfl, hsR, hTR⟩
            have HSN := Lib.hid (show LS WX wr3 from hsn)
            have HRr := Lib.hid (And.intro hsR hTR)
            clear hsR hTR
            dsimp only [slv]
            clear HS hbn hsn
            have HS := HSN
            clear HSN
            simp only [Act.put, List.setIfInBounds_toArray, List.set_cons_zero, List.set_cons_succ]
            refine any_one_d (i := 8) (some 55) rfl (by rfl) (by kernel_rfl) (by kernel_rfl) (by go_simp) HS.out (SG.out _ r1 r2 r3 R HS.out HRr.out.1 HRr.out.2) ?_
            rintro v wr4 hbn hsn rfl
            have HSN := Lib.hid (show LS WX wr4 from hsn)
            clear HS hbn hsn
            have HS := HSN
            clear HSN
            simp only [Act.put, List.setIfInBounds_toArray, List.set_cons_zero, List.set_cons_succ]
            refine any_take (i := 9) (some 56) (.bool true) rfl (by rfl) (by kernel_rfl) (by kernel_rfl) (by kernel_rfl) (fun _ _ _ h => h) (Or.inl ⟨by kernel_rfl, (fun w _ => by go_simp)⟩) HS.out ?_
            simp only [Act.put, List.setIfInBounds_toArray, List.set_cons_zero, List.set_cons_succ]
            refine any_take (i := 10) (some 57) (.bool true) rfl (by rfl) (by kernel_rfl) (by kernel_rfl) (by kernel_rfl) (fun _ _ _ h => h) (Or.inl ⟨by kernel_rfl, (fun w _ => by go_simp)⟩) HS.out ?_
            simp only [Act.put, List.setIfInBounds_toArray, List.set_cons_zero, List.set_cons_succ]
            refine any_take (i := 11) (some 58) (.agg #[.int .i64 k, .int .i64 nO, .slice q1 q2 q3]) rfl (by rfl) (by kernel_rfl) (by kernel_rfl) (by kernel_rfl) (fun _ _ _ h => h) (Or.inl ⟨by kernel_rfl, (fun w hw => by obtain ⟨d0, d1, d2, d3, d4, d5⟩ := HXX.out w hw; go_simp)⟩) HS.out ?_
            simp only [Act.put, List.setIfInBounds_toArray, List.set_cons_zero, List.set_cons_succ]
            refine any_take (i := 14) (some 61) (.agg #[.int .i64 k, .int .i64 (nm (idx L) k n), .slice c1 c2 c3]) rfl (by rfl) (by kernel_rfl) (by kernel_rfl) (by kernel_rfl) (fun _ _ _ h => h) (Or.inl ⟨by kernel_rfl, (fun w hw => by obtain ⟨d0, d1, d2, d3, d4, d5⟩ := HXX.out w hw; go_simp)⟩) HS.out ?_
            simp only [Act.put, List.setIfInBounds_toArray, List.set_cons_zero, List.set_cons_succ]
            refine any_one_d (i := 12) (some 59) rfl (by rfl) (by kernel_rfl) (by kernel_rfl) (by go_simp) HS.out (KO.out _ HS.out) ?_
            rintro v wr5 hbn hsn ⟨⟨s1, s2, s3⟩, S, rfl, hsS, hTS⟩
            have HSN := Lib.hid (show LS WX wr5 from hsn)
            have HSs := Lib.hid (And.intro hsS hTS)
            clear hsS hTS
            dsimp only [slv]
            clear HS hbn hsn
            have HS := HSN
            clear HSN
            simp only [Act.put, List.setIfInBounds_toArray, List.set_cons_zero, List.set_cons_succ]
            refine any_one_d (i := 13) (some 60) rfl (by rfl) (by kernel_rfl) (by kernel_rfl) (by go_simp) HS.out (PG.out _ s1 s2 s3 S HS.out HSs.out.1 HSs.out.2) ?_
            rintro v wr6 hbn hsn rfl
            have HSN := Lib.hid (show LS WX wr6 from hsn)
            clear HS hbn hsn
            have HS := HSN
            clear HSN
            simp only [Act.put, List.setIfInBounds_toArray, List.set_cons_zero, List.set_cons_succ]
            refine any_one_d (i := 15) (some 62) rfl (by rfl) (by kernel_rfl) (by kernel_rfl) (by go_simp) HS.out (PC.out _ HS.out) ?_
            rintro v wr7 hbn hsn rfl
            have HSN := Lib.hid (show LS WX wr7 from hsn)
            clear HS hbn hsn
            have HS := HSN
            clear HSN
            simp only [Act.put, List.setIfInBounds_toArray, List.set_cons_zero, List.set_cons_succ]
            refine any_take (i := 16) (some 63) (.bool true) rfl (by rfl) (by kernel_rfl) (by kernel_rfl) (by kernel_rfl) (fun _ _ _ h => h) (Or.inl ⟨by kernel_rfl, (fun w _ => by go_simp)⟩) HS.out ?_
            simp only [Act.put, List.setIfInBounds_toArray, List.set_cons_zero, List.set_cons_succ]
            refine any_take (i := 17) (some 64) (.bool true) rfl (by rfl) (by kernel_rfl) (by kernel_rfl) (by kernel_rfl) (fun _ _ _ h => h) (Or.inl ⟨by kernel_rfl, (fun w _ => by go_simp)⟩) HS.out ?_
            simp only [Act.put, List.setIfInBounds_toArray, List.set_cons_zero, List.set_cons_succ]
            refine any_take (i := 18) (some 65) (.bool true) rfl (by rfl) (by kernel_rfl) (by kernel_rfl) (by kernel_rfl) (fun _ _ _ h => h) (Or.inl ⟨by kernel_rfl, (fun w _ => by go_simp)⟩) HS.out ?_
            simp only [Act.put, List.setIfInBounds_toArray, List.set_cons_zero, List.set_cons_succ]
            refine any_one_d (i := 19) (some 66) rfl (by rfl) (by kernel_rfl) (by kernel_rfl) (by go_simp) HS.out (KA.out _ HS.out) ?_
            rintro v wr8 hbn hsn rfl
            have HSN := Lib.hid (show LS WX wr8 from hsn)
            clear HS hbn hsn
            have HS := HSN
            clear HSN
            simp only [Act.put, List.setIfInBounds_toArray, List.set_cons_zero, List.set_cons_succ]
            refine any_take (i := 20) (some 67) (.bool true) rfl (by rfl) (by kernel_rfl) (by kernel_rfl) (by kernel_rfl) (fun _ _ _ h => h) (Or.inl ⟨by kernel_rfl, (fun w _ => by go_simp)⟩) HS.out ?_
            simp only [Act.put, List.setIfInBounds_toArray, List.set_cons_zero, List.set_cons_succ]
            refine any_take (i := 21) (some 4) (.bool true) rfl (by rfl) (by kernel_rfl) (by kernel_rfl) (by kernel_rfl) (fun _ _ _ h => h) (Or.inl ⟨by kernel_rfl, (fun w _ => by go_simp)⟩) HS.out ?_
            simp only [Act.put, List.setIfInBounds_toArray, List.set_cons_zero, List.set_cons_succ]
            refine wpAnyH_done (by kernel_rfl) ?_ _
            go_wp2_with fail
            exact bodyPost_ret (results_tmp rfl _ _ _) rfl ⟨rfl, FIN.out _ (H0of.out _ (HX3.out _ HS.out))⟩
          · have f1 : decide (1073741824 ≤ top + b) = true := decide_eq_true (by omega)
            have e9 := HX.out W8 (H0of.out W8 HB8.out)
            obtain ⟨g0, g1, g2⟩ := e9
            obtain ⟨r0, r1, r2, z0, z1, z2, W9, hW9, h9, hsz9, hfar9, hb9⟩ := set3 (w := W8) w7.heap.size _ _ _ (.int .i64 k) (.int .i64 n) (.slice u1 u2 u3) hx8
            obtain ⟨f, hf⟩ : ∃ f, f = idn := ⟨_, rfl⟩
            have Hfi := Lib.hid (show ∀ a ∈ L, ∀ c ∈ L, f a = f c → a = c from fun a _ c _ h => by rw [hf] at h; exact h)
            have Hfw := Lib.hid (show ∀ m, (Lit.int .i64 m).wf = true → (Lit.int .i64 (f m)).wf = true from fun m hm => by rw [hf]; exact hm)
            have HIf := Lib.hid (show Img f F F from hf ▸ img_refl F)
            obtain ⟨nO, hnO⟩ : ∃ nO, nO = n := ⟨_, rfl⟩
            have HnO := Lib.hid (show nm f k n = nO by rw [hf, hnO]; exact nm_id k n)
            have hW39 : LS W3 W9 := Below.trans HB8.out (hb9.mono (Nat.le_trans HB7.out.size (Nat.le_refl _)))
            obtain ⟨q1, hq1⟩ : ∃ q1, q1 = u1 := ⟨_, rfl⟩
            obtain ⟨q2, hq2⟩ : ∃ q2, q2 = u2 := ⟨_, rfl⟩
            obtain ⟨q3, hq3⟩ : ∃ q3, q3 = u3 := ⟨_, rfl⟩
            obtain ⟨WX, hWX⟩ : ∃ WX, WX = W9 := ⟨_, rfl⟩
            obtain ⟨OO, hOO⟩ : ∃ OO, OO = F := ⟨_, rfl⟩
            have HXO := Lib.hid (show WX.heap[w7.heap.size]? = some (Obj.cells #[.int .i64 k, .int .i64 nO, .slice q1 q2 q3] 24) by rw [hWX, hnO, hq1, hq2, hq3]; exact h9)
            have HTO := Lib.hid (show TyV WX.heap.size WX OO (.slice q1 q2 q3) by rw [hWX, hOO, hq1, hq2, hq3]; exact TYF.out W9 (H0of.out W9 hW39))
            have HBX := Lib.hid (show LS W3 WX from hWX ▸ hW39)
            have HIf := Lib.hid (show Img f F OO by rw [hOO]; exact HIf.out)
            go_upto_region 13 with fail
            rw [← hWX]
            clear hf hnO hx8 hT8 hb78 hW8 hq1 hq2 hq3 hWX hOO hTO g0 g1 g2 r0 r1 r2 z0 z1 z2 hW9 h9 hsz9 hfar9 hb9 hW39
            have HX3 := Lib.hid (show ∀ W, LS WX W → LS W3 W from fun W h => Below.trans HBX.out (Below.mono h HBX.out.size))
            have HXX := Lib.hid (show ∀ W, LS WX W → W.cell? ⟨w5.heap.size, 0, none⟩ = some (.int .i64 k) ∧ W.cell? ⟨w5.heap.size, 1, none⟩ = some (.int .i64 (nm (idx L) k n)) ∧ W.cell? ⟨w5.heap.size, 2, none⟩ = some (.slice c1 c2 c3) ∧ W.cell? ⟨w7.heap.size, 0, none⟩ = some (.int .i64 k) ∧ W.cell? ⟨w7.heap.size, 1, none⟩ = some (.int .i64 nO) ∧ W.cell? ⟨w7.heap.size, 2, none⟩ = some (.slice q1 q2 q3) from fun W h => by
              obtain ⟨a0, a1, a2⟩ := HXC.out W (HX3.out W h)
              have h1 := (Below.block h _ (Array.getElem?_eq_some_iff.1 HXO.out).1).trans HXO.out
              exact ⟨a0, a1, a2, cell_of_row W _ 0 _ _ (0, 0) h1, cell_of_row W _ 1 _ _ (0, 0) h1, cell_of_row W _ 2 _ _ (0, 0) h1⟩)
            have hCs := HIC.out.size
            have hOs := HIf.out.size
            have hlL : L.length ≤ 100000 := by rw [HQ.out]; omega
            have hwC : C.wf := HIC.out.wf hwF (fun m _ => idx_wf L hlL m)
            have hwnC : (Lit.int .i64 (nm (idx L) k n)).wf = true := by unfold nm; split; exact idx_wf L hlL n; exact hn
            have hwO : OO.wf := HIf.out.wf hwF Hfw.out
            have hwnO : (Lit.int .i64 nO).wf = true := by rw [← HnO.out]; unfold nm; split; exact Hfw.out n hn; exact hn
            have TYO := Lib.hid (show ∀ W, LS WX W → TyV W.heap.size W OO (.slice q1 q2 q3) from fun W hb => HTO.out.keep (Below.size hb) fun b off hlt => Below.cell hb (p := ⟨b, off, none⟩) hlt)
            have KC := Lib.hid (show ∀ W, LS WX W → Gives Tryd.prog 29 #[(.agg #[.int .i64 k, .int .i64 (nm (idx L) k n), .slice c1 c2 c3])] W (SameAs k (nm (idx L) k n) C) from fun W h => (canon_any W k (nm (idx L) k n) (c1, c2, c3) C (TYC.out W (HX3.out W h)) (by omega) hwnC hwC _ rfl).mono fun e w' ⟨uc, h1, h2, h3⟩ => ⟨_, h1, by
              obtain ⟨g, hi, hT⟩ := h3.now
              obtain ⟨e1, e2⟩ := canon_again (k := k) (n := n) HIC.out (fun a ha c hc h => idx_inj L a c (HLL.out ▸ ha) (HLL.out ▸ hc) h) (A := C) (B := g) (HLL.out.symm ▸ HIC.out) hi
              rw [HLL.out] at e1
              exact ⟨uc, g, by rw [e1]; rfl, e2, hT⟩, h2⟩)
            have KO := Lib.hid (show ∀ W, LS WX W → Gives Tryd.prog 29 #[(.agg #[.int .i64 k, .int .i64 nO, .slice q1 q2 q3])] W (SameAs k (nm (idx L) k n) C) from fun W h => (canon_any W k nO (q1, q2, q3) OO (TYO.out W h) (by omega) hwnO hwO _ rfl).mono fun e w' ⟨uc, h1, h2, h3⟩ => ⟨_, h1, by
              obtain ⟨g, hi, hT⟩ := h3.now
              rw [← HnO.out] at hi ⊢
              obtain ⟨e1, e2⟩ := canon_again (k := k) (n := n) HIf.out (fun a ha c hc h => Hfi.out a (HLL.out ▸ ha) c (HLL.out ▸ hc) h) (A := C) (B := g) (HLL.out.symm ▸ HIC.out) hi
              rw [HLL.out] at e1
              exact ⟨uc, g, by rw [e1]; rfl, e2, hT⟩, h2⟩)
            obtain ⟨X, hX⟩ : ∃ X : ByteArray, X = ⟨(if alone k (nm (idx L) k n) C.len && C.ok then oneT k (nm (idx L) k n) C.txts else []).toArray⟩ := ⟨_, rfl⟩
            have PG := Lib.hid (show ∀ W (p1 : Option Addr) (p2 p3 : Nat) g, LS WX W → g.same C = true → TyV W.heap.size W g (.slice p1 p2 p3) → Gives Tryd.prog 26 #[.agg #[.int .i64 k, .int .i64 (nm (idx L) k n), .slice p1 p2 p3]] W (fun v _ => v = .string X) from fun W p1 p2 p3 g h hs' hT => by
              have hp := print_any W k (nm (idx L) k n) (p1, p2, p3) g hT (by have := same_size hs'; omega) (ht0.out.below (H0of.out W (HX3.out W h)))
              rw [same_txt hs', strB, ← hX] at hp
              exact gives_of hp)
            have PC := Lib.hid (show ∀ W, LS WX W → Gives Tryd.prog 26 #[(.agg #[.int .i64 k, .int .i64 (nm (idx L) k n), .slice c1 c2 c3])] W (fun v _ => v = .string X) from fun W h => by
              have hp := print_any W k (nm (idx L) k n) (c1, c2, c3) C (TYC.out W (HX3.out W h)) (by omega) (ht0.out.below (H0of.out W (HX3.out W h)))
              rw [strB, ← hX] at hp
              exact gives_of hp)
            have SG := Lib.hid (show ∀ W (p1 : Option Addr) (p2 p3 : Nat) g, LS WX W → g.same C = true → TyV W.heap.size W g (.slice p1 p2 p3) → Gives Tryd.prog 24 #[.agg #[.int .i64 k, .int .i64 (nm (idx L) k n), .slice p1 p2 p3], (.agg #[.int .i64 k, .int .i64 (nm (idx L) k n), .slice c1 c2 c3])] W (fun v _ => v = .bool true) from fun W p1 p2 p3 g h hs' hT => (show (k == k && nm (idx L) k n == nm (idx L) k n && g.same C) = true by simp [hs']) ▸ gives_of (rsame_any _ g C k (nm (idx L) k n) k (nm (idx L) k n) _ _ W (Nat.lt_succ_self _) (by have := same_size hs'; omega) (by omega) hT (TYC.out W (HX3.out W h))))
            have KA := Lib.hid (show ∀ W, LS WX W → Gives Tryd.prog 11 #[] W (fun v _ => v = .bool true) from fun W h => gives_of (HAW.out W (H0of.out W (HX3.out W h))))
            have HCl := Lib.hid hCs
            clear hCs hOs hlL hwC hwnC hwO hwnO hX
            refine wp_region_held (S := LS WX) (by kernel_rfl) ?_
            change wpAnyH _ _ _ _ _ 22 (List.replicate 22 false).toArray _ WX.drew
            simp only [List.replicate_succ, List.replicate_zero]
            have HS := Lib.hid (show LS WX WX.drew from Below.drew (Below.refl _ _))
            generalize WX.drew = wa at *
            refine any_take (i := 0) (some 47) (.agg #[.int .i64 k, .int .i64 (nm (idx L) k n), .slice c1 c2 c3]) rfl (by rfl) (by kernel_rfl) (by kernel_rfl) (by kernel_rfl) (fun _ _ _ h => h) (Or.inl ⟨by kernel_rfl, (fun w hw => by obtain ⟨d0, d1, d2, d3, d4, d5⟩ := HXX.out w hw; go_simp)⟩) HS.out ?_
            simp only [Act.put, List.setIfInBounds_toArray, List.set_cons_zero, List.set_cons_succ]
            refine any_take (i := 2) (some 49) (.agg #[.int .i64 k, .int .i64 (nm (idx L) k n), .slice c1 c2 c3]) rfl (by rfl) (by kernel_rfl) (by kernel_rfl) (by kernel_rfl) (fun _ _ _ h => h) (Or.inl ⟨by kernel_rfl, (fun w hw => by obtain ⟨d0, d1, d2, d3, d4, d5⟩ := HXX.out w hw; go_simp)⟩) HS.out ?_
            simp only [Act.put, List.setIfInBounds_toArray, List.set_cons_zero, List.set_cons_succ]
            refine any_one_d (i := 1) (some 48) rfl (by rfl) (by kernel_rfl) (by kernel_rfl) (by go_simp) HS.out (KC.out _ HS.out) ?_
            rintro v wr1 hbn hsn ⟨⟨p1, p2, p3⟩, P, rfl, hsP, hTP⟩
            have HSN := Lib.hid (show LS WX wr1 from hsn)
            have HP := Lib.hid (And.intro hsP hTP)
            clear hsP hTP
            dsimp only [slv]
            clear HS hbn hsn
            have HS := HSN
            clear HSN
            simp only [Act.put, List.setIfInBounds_toArray, List.set_cons_zero, List.set_cons_succ]
            refine any_one_d (i := 3) (some 50) rfl (by rfl) (by kernel_rfl) (by kernel_rfl) (by go_simp) HS.out (SG.out _ p1 p2 p3 P HS.out HP.out.1 HP.out.2) ?_
            rintro v wr2 hbn hsn rfl
            have HSN := Lib.hid (show LS WX wr2 from hsn)
            clear HS hbn hsn
            have HS := HSN
            clear HSN
            simp only [Act.put, List.setIfInBounds_toArray, List.set_cons_zero, List.set_cons_succ]
            refine any_take (i := 4) (some 51) (.bool true) rfl (by rfl) (by kernel_rfl) (by kernel_rfl) (by kernel_rfl) (fun _ _ _ h => h) (Or.inl ⟨by kernel_rfl, (fun w _ => by go_simp)⟩) HS.out ?_
            simp only [Act.put, List.setIfInBounds_toArray, List.set_cons_zero, List.set_cons_succ]
            refine any_take (i := 5) (some 52) (.agg #[.int .i64 k, .int .i64 nO, .slice q1 q2 q3]) rfl (by rfl) (by kernel_rfl) (by kernel_rfl) (by kernel_rfl) (fun _ _ _ h => h) (Or.inl ⟨by kernel_rfl, (fun w hw => by obtain ⟨d0, d1, d2, d3, d4, d5⟩ := HXX.out w hw; go_simp)⟩) HS.out ?_
            simp only [Act.put, List.setIfInBounds_toArray, List.set_cons_zero, List.set_cons_succ]
            refine any_take (i := 7) (some 54) (.agg #[.int .i64 k, .int .i64 (nm (idx L) k n), .slice c1 c2 c3]) rfl (by rfl) (by kernel_rfl) (by kernel_rfl) (by kernel_rfl) (fun _ _ _ h => h) (Or.inl ⟨by kernel_rfl, (fun w hw => by obtain ⟨d0, d1, d2, d3, d4, d5⟩ := HXX.out w hw; go_simp)⟩) HS.out ?_
            simp only [Act.put, List.setIfInBounds_toArray, List.set_cons_zero, List.set_cons_succ]
            refine any_one_d (i := 6) (some 53) rfl (by rfl) (by kernel_rfl) (by kernel_rfl) (by go_simp) HS.out (KO.out _ HS.out) ?_
            rintro v wr3 hbn hsn ⟨⟨r1, r2, r3⟩, R, rfl, hsR, hTR⟩
            have HSN := Lib.hid (show LS WX wr3 from hsn)
            have HRr := Lib.hid (And.intro hsR hTR)
            clear hsR hTR
            dsimp only [slv]
            clear HS hbn hsn
            have HS := HSN
            clear HSN
            simp only [Act.put, List.setIfInBounds_toArray, List.set_cons_zero, List.set_cons_succ]
            refine any_one_d (i := 8) (some 55) rfl (by rfl) (by kernel_rfl) (by kernel_rfl) (by go_simp) HS.out (SG.out _ r1 r2 r3 R HS.out HRr.out.1 HRr.out.2) ?_
            rintro v wr4 hbn hsn rfl
            have HSN := Lib.hid (show LS WX wr4 from hsn)
            clear HS hbn hsn
            have HS := HSN
            clear HSN
            simp only [Act.put, List.setIfInBounds_toArray, List.set_cons_zero, List.set_cons_succ]
            refine any_take (i := 9) (some 56) (.bool true) rfl (by rfl) (by kernel_rfl) (by kernel_rfl) (by kernel_rfl) (fun _ _ _ h => h) (Or.inl ⟨by kernel_rfl, (fun w _ => by go_simp)⟩) HS.out ?_
            simp only [Act.put, List.setIfInBounds_toArray, List.set_cons_zero, List.set_cons_succ]
            refine any_take (i := 10) (some 57) (.bool true) rfl (by rfl) (by kernel_rfl) (by kernel_rfl) (by kernel_rfl) (fun _ _ _ h => h) (Or.inl ⟨by kernel_rfl, (fun w _ => by go_simp)⟩) HS.out ?_
            simp only [Act.put, List.setIfInBounds_toArray, List.set_cons_zero, List.set_cons_succ]
            refine any_take (i := 11) (some 58) (.agg #[.int .i64 k, .int .i64 nO, .slice q1 q2 q3]) rfl (by rfl) (by kernel_rfl) (by kernel_rfl) (by kernel_rfl) (fun _ _ _ h => h) (Or.inl ⟨by kernel_rfl, (fun w hw => by obtain ⟨d0, d1, d2, d3, d4, d5⟩ := HXX.out w hw; go_simp)⟩) HS.out ?_
            simp only [Act.put, List.setIfInBounds_toArray, List.set_cons_zero, List.set_cons_succ]
            refine any_take (i := 14) (some 61) (.agg #[.int .i64 k, .int .i64 (nm (idx L) k n), .slice c1 c2 c3]) rfl (by rfl) (by kernel_rfl) (by kernel_rfl) (by kernel_rfl) (fun _ _ _ h => h) (Or.inl ⟨by kernel_rfl, (fun w hw => by obtain ⟨d0, d1, d2, d3, d4, d5⟩ := HXX.out w hw; go_simp)⟩) HS.out ?_
            simp only [Act.put, List.setIfInBounds_toArray, List.set_cons_zero, List.set_cons_succ]
            refine any_one_d (i := 12) (some 59) rfl (by rfl) (by kernel_rfl) (by kernel_rfl) (by go_simp) HS.out (KO.out _ HS.out) ?_
            rintro v wr5 hbn hsn ⟨⟨s1, s2, s3⟩, S, rfl, hsS, hTS⟩
            have HSN := Lib.hid (show LS WX wr5 from hsn)
            have HSs := Lib.hid (And.intro hsS hTS)
            clear hsS hTS
            dsimp only [slv]
            clear HS hbn hsn
            have HS := HSN
            clear HSN
            simp only [Act.put, List.setIfInBounds_toArray, List.set_cons_zero, List.set_cons_succ]
            refine any_one_d (i := 13) (some 60) rfl (by rfl) (by kernel_rfl) (by kernel_rfl) (by go_simp) HS.out (PG.out _ s1 s2 s3 S HS.out HSs.out.1 HSs.out.2) ?_
            rintro v wr6 hbn hsn rfl
            have HSN := Lib.hid (show LS WX wr6 from hsn)
            clear HS hbn hsn
            have HS := HSN
            clear HSN
            simp only [Act.put, List.setIfInBounds_toArray, List.set_cons_zero, List.set_cons_succ]
            refine any_one_d (i := 15) (some 62) rfl (by rfl) (by kernel_rfl) (by kernel_rfl) (by go_simp) HS.out (PC.out _ HS.out) ?_
            rintro v wr7 hbn hsn rfl
            have HSN := Lib.hid (show LS WX wr7 from hsn)
            clear HS hbn hsn
            have HS := HSN
            clear HSN
            simp only [Act.put, List.setIfInBounds_toArray, List.set_cons_zero, List.set_cons_succ]
            refine any_take (i := 16) (some 63) (.bool true) rfl (by rfl) (by kernel_rfl) (by kernel_rfl) (by kernel_rfl) (fun _ _ _ h => h) (Or.inl ⟨by kernel_rfl, (fun w _ => by go_simp)⟩) HS.out ?_
            simp only [Act.put, List.setIfInBounds_toArray, List.set_cons_zero, List.set_cons_succ]
            refine any_take (i := 17) (some 64) (.bool true) rfl (by rfl) (by kernel_rfl) (by kernel_rfl) (by kernel_rfl) (fun _ _ _ h => h) (Or.inl ⟨by kernel_rfl, (fun w _ => by go_simp)⟩) HS.out ?_
            simp only [Act.put, List.setIfInBounds_toArray, List.set_cons_zero, List.set_cons_succ]
            refine any_take (i := 18) (some 65) (.bool true) rfl (by rfl) (by kernel_rfl) (by kernel_rfl) (by kernel_rfl) (fun _ _ _ h => h) (Or.inl ⟨by kernel_rfl, (fun w _ => by go_simp)⟩) HS.out ?_
            simp only [Act.put, List.setIfInBounds_toArray, List.set_cons_zero, List.set_cons_succ]
            refine any_one_d (i := 19) (some 66) rfl (by rfl) (by kernel_rfl) (by kernel_rfl) (by go_simp) HS.out (KA.out _ HS.out) ?_
            rintro v wr8 hbn hsn rfl
            have HSN := Lib.hid (show LS WX wr8 from hsn)
            clear HS hbn hsn
            have HS := HSN
            clear HSN
            simp only [Act.put, List.setIfInBounds_toArray, List.set_cons_zero, List.set_cons_succ]
            refine any_take (i := 20) (some 67) (.bool true) rfl (by rfl) (by kernel_rfl) (by kernel_rfl) (by kernel_rfl) (fun _ _ _ h => h) (Or.inl ⟨by kernel_rfl, (fun w _ => by go_simp)⟩) HS.out ?_
            simp only [Act.put, List.setIfInBounds_toArray, List.set_cons_zero, List.set_cons_succ]
            refine any_take (i := 21) (some 4) (.bool true) rfl (by rfl) (by kernel_rfl) (by kernel_rfl) (by kernel_rfl) (fun _ _ _ h => h) (Or.inl ⟨by kernel_rfl, (fun w _ => by go_simp)⟩) HS.out ?_
            simp only [Act.put, List.setIfInBounds_toArray, List.set_cons_zero, List.set_cons_succ]
            refine wpAnyH_done (by kernel_rfl) ?_ _
            go_wp2_with fail
            exact bodyPost_ret (results_tmp rfl _ _ _) rfl ⟨rfl, FIN.out _ (H0of.out _ (HX3.out _ HS.out))⟩
end Go.Proofs.YtagdpohgicihnaaDoor
