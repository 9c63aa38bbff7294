/- Texts of one proof, one behind the other. -/
import Derived.Test.YtcaclgaaaanfnaaMgUnifyOrder30
/- UnifyMore, walked. -/
namespace Go.Proofs.Ytcaclgaaaanfnaa
open Go.RowKit
open Un (Else dg cnt own_else)
set_option maxRecDepth 100000
theorem EqV.len_le {B : Nat} {w : World} {l : List Eqn} {v : Value} (h : EqV B w l v) : l.length ≤ 9223372036854775807 := by
  obtain ⟨A, c, _, h1, _⟩ := h
  by_cases h0 : 0 < l.length
  · obtain ⟨_, _, _, _, h2, h3, _⟩ := h1 h0
    unfold maxLen at h3
    omega
  · omega
/-- Two new closures. -/
theorem Two.new {w4 w5 w6 : World} {c d : Nat} (h5 : CsM (fun k => w4.heap.size ≤ k) w5 c [] [] 0 0 0) (hb5 : Below w4.heap.size w4 w5) (h6 : CsM (fun k => w5.heap.size ≤ k) w6 d [] [] 0 0 0) (hb6 : Below w5.heap.size w5 w6) : Two w4.heap.size w6 c d ([], []) ([], []) 0 := by
  obtain ⟨Oc, a1, a2⟩ := h5.tight
  obtain ⟨Od, b1, b2⟩ := h6.tight
  have hs5 := hb5.size
  have hs6 := hb6.size
  refine ⟨Oc, Od, .inl ⟨0, 0, 0, a2.below hb6, by omega, by omega, by omega, by omega⟩, .inl ⟨0, 0, 0, b2, by omega, by omega, by omega, by omega⟩, fun k hk => ?_, fun k hk => ?_, fun k hk hd => ?_⟩
  · have := a1 k hk; omega
  · have := b1 k hk; omega
  · have := a1 k hk
    have := b1 k hd
    omega
theorem two_err {w : World} {B b c d : Nat} {s t : Sys} (h : Two B w c d s t b) : Calls Try.prog 29 #[.pointer (some ⟨d, 0, none⟩)] w fun e w' => (∃ r : Int, e = .returned (.int .i64 r) ∧ ((r = 7 ∧ Clash t.1 t.2) ∨ (r = 0 ∧ ¬ Clash t.1 t.2))) ∧ w' = w := by
  obtain ⟨_, _, _, h2, _⟩ := h
  exact err_clo h2
theorem fold_take (m : List Eqn) (s : Sys) (j : Nat) (hj : j < m.length) : (m.take (j + 1)).foldl stp s = stp ((m.take j).foldl stp s) m[j] := by
  rw [List.take_add_one, List.getElem?_eq_getElem hj, List.foldl_append]
  rfl
theorem rt_of {l : List Eqn} {j : Nat} (hj : j < (rights l).length) : rtE (rights l)[j] = true := (List.mem_filter.1 (List.getElem_mem hj)).2
theorem sz_of {l : List Eqn} {j : Nat} (hj : j < l.length) : esz (l.take j) + sz1 l[j] ≤ esz l := by
  rw [← esz_step l j hj]
  exact esz_take l (j + 1)
theorem vsort_mem {G : List Gn} {i : Nat} {a : Int} (h : (vsort G)[i]? = some a) : a ∈ names G := by
  have hp := (vfold G [] List.Pairwise.nil).2
  have := hp.mem_iff.1 (List.mem_of_getElem? h)
  simpa using this
theorem vars_cq {O : Nat → Prop} {w : World} {cb : Nat} {s : Sys} {f : Int} (h : CQ O w cb s f) (hl : s.1.length ≤ 1000000) (hg : GN s.1) :
    Calls Try.prog 31 #[.pointer (some ⟨cb, 0, none⟩)] w fun e w' => ∃ v', e = .returned v' ∧ w'.ownsRow w.heap.size 3 1 v' (vsort s.1).length (ints (vsort s.1)) ∧ Below w.heap.size w w' := by
  obtain ⟨st, fs, m, hC, _⟩ := h
  exact vars_cs hC hl hg
theorem err_cq {O : Nat → Prop} {w : World} {cb : Nat} {s : Sys} {f : Int} (h : CQ O w cb s f) : Calls Try.prog 29 #[.pointer (some ⟨cb, 0, none⟩)] w fun e w' => e = .returned (.int .i64 0) ∧ w' = w := by
  obtain ⟨st, fs, m, hC, _⟩ := h
  exact err_cs hC
set_option maxHeartbeats 8000000 in
theorem umore_law (w : World) (l more : List Eqn) (v v2 : Value) (hl : ArgE w v l) (hm : ArgE w v2 more) :
    Calls Try.prog 7 #[v, v2] w fun e w' => e = .returned (.bool true) ∧ Below w.heap.size w w' := by
  have HG1 := Lib.hid (great12_any w l v hl.1 hl.1.len_le)
  have HL := Lib.hid hl
  have HM := Lib.hid hm
  have HAW := Lib.hid awake12
  obtain ⟨Al, cl, rfl⟩ := hl.1.form
  obtain ⟨Am, cm, rfl⟩ := hm.1.form
  clear hl hm
  go_enter Try.func7, Try.ntmps7
  go_wp2_with fail
  refine HG1.out.mono ?_
  clear HG1
  rintro e w1 ⟨g1, rfl, hg1, hb1⟩
  have HB1 := Lib.hid hb1
  cases g1 with
  | true =>
    clear hg1 hb1
    go_wp2_with fail
    refine (HAW.out w1).mono ?_
    rintro e w2 ⟨rfl, hb2⟩
    have HB2 := Lib.hid (HB1.out.trans (hb2.mono HB1.out.size))
    clear hb2
    go_wp2_with fail
    exact bodyPost_ret (results_tmp rfl _ _ _) rfl ⟨rfl, HB2.out⟩
  | false =>
    have hl1 := hg1 rfl
    have HG2 := Lib.hid (great12_any w1 more (.slice Am more.length cm) (HM.out.1.later hb1) HM.out.1.len_le)
    clear hg1 hb1
    go_wp2_with fail
    refine HG2.out.mono ?_
    clear HG2
    rintro e w2 ⟨g2, rfl, hg2, hb2⟩
    have HB2 := Lib.hid (HB1.out.trans (hb2.mono HB1.out.size))
    clear hb2
    cases g2 with
    | true =>
      clear hg2
      go_wp2_with fail
      refine (HAW.out w2).mono ?_
      rintro e w3 ⟨rfl, hb3⟩
      have HB3 := Lib.hid (HB2.out.trans (hb3.mono HB2.out.size))
      clear hb3
      go_wp2_with fail
      exact bodyPost_ret (results_tmp rfl _ _ _) rfl ⟨rfl, HB3.out⟩
    | false =>
      have hm1 := hg2 rfl
      have HR1 := Lib.hid (rights12_any w2 l (.slice Al l.length cl) (HL.out.1.later HB2.out) hl1.1 hl1.2)
      clear hg2
      go_wp2_with fail
      refine HR1.out.mono ?_
      clear HR1
      rintro e w3 ⟨v3, rfl, he3, hb3⟩
      have HB3 := Lib.hid (HB2.out.trans (hb3.mono HB2.out.size))
      have HE3 := Lib.hid he3
      have HR2 := Lib.hid (rights12_any w3 more (.slice Am more.length cm) (HM.out.1.later HB3.out) hm1.1 hm1.2)
      obtain ⟨A3, c3, rfl⟩ := he3.form
      clear hb3 he3
      go_wp2_with fail
      refine HR2.out.mono ?_
      clear HR2
      rintro e w4 ⟨v4, rfl, he4, hb4⟩
      have HB4 := Lib.hid (HB3.out.trans (hb4.mono HB3.out.size))
      obtain ⟨A4, c4, rfl⟩ := he4.form
      have HE := Lib.hid (And.intro (HE3.out.later hb4) he4)
      have hn1 : (rights l).length ≤ 20 := Nat.le_trans (rights_len l) hl1.1
      have hn2 : (rights more).length ≤ 20 := Nat.le_trans (rights_len more) hm1.1
      have hz1 : esz (rights l) ≤ 160 := Nat.le_trans (esz_rights l) hl1.2
      have hz2 : esz (rights more) ≤ 160 := Nat.le_trans (esz_rights more) hm1.2
      have HW := Lib.hid (And.intro (EqW.rights HL.out.2) (EqW.rights HM.out.2))
      have HRT := Lib.hid (And.intro (fun j (hj : j < (rights l).length) => rt_of hj) (fun j (hj : j < (rights more).length) => rt_of hj))
      obtain ⟨L, hL⟩ : ∃ z, rights l = z := ⟨_, rfl⟩
      obtain ⟨M, hM⟩ : ∃ z, rights more = z := ⟨_, rfl⟩
      rw [hL] at HE HW HRT hn1 hz1 ⊢
      rw [hM] at HE HW HRT hn2 hz2 ⊢
      clear hb4 he4 HE3 hl1 hm1 hL hM
      go_wp2_with fail
      refine (new_cs w4).mono ?_
      rintro e w5 ⟨c, rfl, hC5, hb5⟩
      have H5 := Lib.hid (And.intro hC5 hb5)
      clear hC5 hb5
      go_wp2_with fail
      refine (new_cs w5).mono ?_
      rintro e w6 ⟨d, rfl, hC6, hb6⟩
      have HTW := Lib.hid (Two.new H5.out.1 H5.out.2 hC6 hb6)
      have HB6 := Lib.hid (show Below w4.heap.size w4 w6 from H5.out.2.trans (hb6.mono H5.out.2.size))
      clear hC6 hb6 H5
      go_wp2_with fail
      go_loopw [7] (fun s wr => ∃ j : Nat, s = .int .i64 (j : Nat) ∧ j ≤ L.length ∧ Two w4.heap.size wr c d (cls (L.take j)) (cls (L.take j)) (2 * j) ∧ Below w4.heap.size w4 wr) (fun s _ => L.length - (intOf s).toNat)
      case atStart => exact ⟨0, rfl, Nat.zero_le _, HTW.out, HB6.out⟩
      case round =>
        obtain ⟨j, rfl, hj, hT, hb⟩ := hrel
        have HT := Lib.hid (And.intro hT hb)
        clear hT hb HTW HB6
        by_cases hjl : j < L.length
        · have f1 : decide ((j : Int) < (L.length : Int)) = true := decide_eq_true (by omega)
          obtain ⟨b, off, rfl, hat, hty⟩ : ∃ b off, A3 = some ⟨b, off, none⟩ ∧ (∀ W, Below w4.heap.size w4 W → EqAt W b (off + j * 8) L[j]) ∧ (∀ W, Below w4.heap.size w4 W → EqT w4.heap.size W L[j]) := by
            obtain ⟨b, off, hA, _, _⟩ := HE.out.1.at j hjl
            refine ⟨b, off, hA, fun W hb => ?_, fun W hb => (HE.out.1.below hb).ty j hjl⟩
            obtain ⟨b', off', hA', _, hat⟩ := (HE.out.1.below hb).at j hjl
            rw [hA] at hA'
            cases hA'
            exact hat
          obtain ⟨x, hx⟩ : ∃ x, L[j] = x := ⟨_, rfl⟩
          have hxw := HW.out.1 _ (List.getElem_mem hjl)
          have hxr := HRT.out.1 j hjl
          have hxs := sz_of hjl
          rw [hx] at hat hty hxw hxr hxs
          obtain ⟨S0, hSof, hSto⟩ : ∃ S0 : World → Prop, (∀ W : World, Below w4.heap.size w4 W → S0 W) ∧ (∀ W, S0 W → Below w4.heap.size w4 W) := ⟨_, fun _ h => h, fun _ h => h⟩
          obtain ⟨⟨k0, n0, ⟨u1, u2, u3⟩, F⟩, ⟨k1, n1, ⟨v1, v2, v3⟩, F'⟩, a0, a1⟩ := x
          have EX : Hid (∀ W, S0 W → (W.cell? ⟨b, off + j * 8, none⟩ = some (.int .i64 k0) ∧ W.cell? ⟨b, off + j * 8 + 1, none⟩ = some (.int .i64 n0) ∧ W.cell? ⟨b, off + j * 8 + 2, none⟩ = some (.slice u1 u2 u3)) ∧ W.cell? ⟨b, off + j * 8 + 3, none⟩ = some (.int .i64 k1) ∧ W.cell? ⟨b, off + j * 8 + 3 + 1, none⟩ = some (.int .i64 n1) ∧ W.cell? ⟨b, off + j * 8 + 3 + 2, none⟩ = some (.slice v1 v2 v3)) := Lib.hid fun W h => by
            obtain ⟨q0, q1, q2, q3, q4, q5, _, _⟩ := hat W (hSto W h)
            exact ⟨⟨q0, q1, q2⟩, q3, q4, q5⟩
          have HTY := Lib.hid hty
          have HX := Lib.hid (And.intro hx (And.intro hxw (And.intro hxr hxs)))
          have HSF := Lib.hid hSof
          clear hat hty hx hxw hxr hxs hSto hSof
          go_wp2_with fail
          have hd1 : Below w4.heap.size w4 wr.drew := HT.out.2.trans ((Below.refl _ wr).drew.mono HT.out.2.size)
          have hS : S0 wr.drew := HSF.out _ hd1
          have HEQ := two_left (HT.out.1.below (Below.refl _ wr).drew) hd1.size _ (HTY.out _ hd1) HX.out.2.1 HX.out.2.2.1 (by have h1 := cls_len (L.take j); have h2 := HX.out.2.2.2; omega) (by omega)
          have HEQH := Lib.hid HEQ
          dsimp only [t1V, tyVal, slv] at HEQH
          clear HEQ hd1
          refine wp_region_held (S := S0) (by kernel_rfl) ?_
          change wpAnyH _ _ _ _ _ 12 (List.replicate 12 false).toArray _ wr.drew
          simp only [List.replicate_succ, List.replicate_zero]
          refine any_take (i := 0) (some 31) (.pointer (some ⟨c, 0, none⟩)) rfl (by rfl) (by kernel_rfl) (by kernel_rfl) (by kernel_rfl) (fun _ _ _ h => h) (Or.inl ⟨by kernel_rfl, (fun W hw => by clear hw; go_simp)⟩) hS ?_
          simp only [Act.put, List.setIfInBounds_toArray, List.set_cons_zero, List.set_cons_succ]
          refine any_take (i := 1) (some 32) (.slice (some ⟨b, off, none⟩) L.length c3) rfl (by rfl) (by kernel_rfl) (by kernel_rfl) (by kernel_rfl) (fun _ _ _ h => h) (Or.inl ⟨by kernel_rfl, (fun W hw => by clear hw; go_simp)⟩) hS ?_
          simp only [Act.put, List.setIfInBounds_toArray, List.set_cons_zero, List.set_cons_succ]
          refine any_take (i := 2) (some 33) (.int .i64 (j : Nat)) rfl (by rfl) (by kernel_rfl) (by kernel_rfl) (by kernel_rfl) (fun _ _ _ h => h) (Or.inl ⟨by kernel_rfl, (fun W hw => by clear hw; go_simp)⟩) hS ?_
          simp only [Act.put, List.setIfInBounds_toArray, List.set_cons_zero, List.set_cons_succ]
          refine any_take (i := 3) (some 34) (.pointer (some ⟨b, off + j * 8, none⟩)) rfl (by rfl) (by kernel_rfl) (by kernel_rfl) (by kernel_rfl) (fun _ _ _ h => h) (Or.inl ⟨by kernel_rfl, (fun W hw => by clear hw; go_simp)⟩) hS ?_
          simp only [Act.put, List.setIfInBounds_toArray, List.set_cons_zero, List.set_cons_succ]
          refine any_take (i := 4) (some 35) (.pointer (some ⟨b, off + j * 8, none⟩)) rfl (by rfl) (by kernel_rfl) (by kernel_rfl) (by kernel_rfl) (fun _ _ _ h => h) (Or.inl ⟨by kernel_rfl, (fun W hw => by clear hw; go_simp)⟩) hS ?_
          simp only [Act.put, List.setIfInBounds_toArray, List.set_cons_zero, List.set_cons_succ]
          refine any_take (i := 5) (some 36) (.agg #[.int .i64 k0, .int .i64 n0, .slice u1 u2 u3]) rfl (by rfl) (by kernel_rfl) (by kernel_rfl) (by kernel_rfl) (fun _ _ _ h => h) (Or.inl ⟨by kernel_rfl, (fun W hw => by obtain ⟨⟨n0_, n1_, n2_⟩, m0_, m1_, m2_⟩ := EX.out W hw; clear hw; go_simp)⟩) hS ?_
          simp only [Act.put, List.setIfInBounds_toArray, List.set_cons_zero, List.set_cons_succ]
          refine any_take (i := 6) (some 37) (.slice (some ⟨b, off, none⟩) L.length c3) rfl (by rfl) (by kernel_rfl) (by kernel_rfl) (by kernel_rfl) (fun _ _ _ h => h) (Or.inl ⟨by kernel_rfl, (fun W hw => by clear hw; go_simp)⟩) hS ?_
          simp only [Act.put, List.setIfInBounds_toArray, List.set_cons_zero, List.set_cons_succ]
          refine any_take (i := 7) (some 38) (.int .i64 (j : Nat)) rfl (by rfl) (by kernel_rfl) (by kernel_rfl) (by kernel_rfl) (fun _ _ _ h => h) (Or.inl ⟨by kernel_rfl, (fun W hw => by clear hw; go_simp)⟩) hS ?_
          simp only [Act.put, List.setIfInBounds_toArray, List.set_cons_zero, List.set_cons_succ]
          refine any_take (i := 8) (some 39) (.pointer (some ⟨b, off + j * 8, none⟩)) rfl (by rfl) (by kernel_rfl) (by kernel_rfl) (by kernel_rfl) (fun _ _ _ h => h) (Or.inl ⟨by kernel_rfl, (fun W hw => by clear hw; go_simp)⟩) hS ?_
          simp only [Act.put, List.setIfInBounds_toArray, List.set_cons_zero, List.set_cons_succ]
          refine any_take (i := 9) (some 40) (.pointer (some ⟨b, off + j * 8 + 3, none⟩)) rfl (by rfl) (by kernel_rfl) (by kernel_rfl) (by kernel_rfl) (fun _ _ _ h => h) (Or.inl ⟨by kernel_rfl, (fun W hw => by clear hw; go_simp)⟩) hS ?_
          simp only [Act.put, List.setIfInBounds_toArray, List.set_cons_zero, List.set_cons_succ]
          refine any_take (i := 10) (some 41) (.agg #[.int .i64 k1, .int .i64 n1, .slice v1 v2 v3]) rfl (by rfl) (by kernel_rfl) (by kernel_rfl) (by kernel_rfl) (fun _ _ _ h => h) (Or.inl ⟨by kernel_rfl, (fun W hw => by obtain ⟨⟨n0_, n1_, n2_⟩, m0_, m1_, m2_⟩ := EX.out W hw; clear hw; go_simp)⟩) hS ?_
          simp only [Act.put, List.setIfInBounds_toArray, List.set_cons_zero, List.set_cons_succ]
          refine wpAnyH_all (rs := [11]) (by kernel_rfl) (by simp) fun q' hq' => ?_
          obtain rfl : q' = 11 := by simpa using hq'
          refine ops_call (d := some 42) rfl (by rfl) (by kernel_rfl) (by go_simp) (HEQH.out.mono ?_)
          rintro e w7 ⟨⟨r7, rfl⟩, hT7, hb7⟩
          have hb7' : Below w4.heap.size w4 w7 := HT.out.2.trans (((Below.refl _ wr).drew.mono HT.out.2.size).trans hb7)
          have hS7 := HSF.out _ hb7'
          have HT7 := Lib.hid (And.intro hT7 hb7')
          clear hT7 hb7 hb7' HEQH
          refine ⟨_, rfl, hS7, ?_⟩
          simp only [Act.put, List.setIfInBounds_toArray, List.set_cons_zero, List.set_cons_succ]
          refine wpAnyH_done (by kernel_rfl) ?_ _
          clear hS hS7
          go_wp2_with fail
          have hd1 : Below w4.heap.size w4 w7.drew := HT7.out.2.trans ((Below.refl _ w7).drew.mono HT7.out.2.size)
          have hS : S0 w7.drew := HSF.out _ hd1
          have HEQ := two_right (HT7.out.1.below (Below.refl _ w7).drew) hd1.size _ (HTY.out _ hd1) HX.out.2.1 HX.out.2.2.1 (by have h1 := cls_len (L.take j); have h2 := HX.out.2.2.2; omega) (by omega)
          have HEQH := Lib.hid HEQ
          dsimp only [t1V, tyVal, slv] at HEQH
          clear HEQ hd1
          refine wp_region_held (S := S0) (by kernel_rfl) ?_
          change wpAnyH _ _ _ _ _ 12 (List.replicate 12 false).toArray _ w7.drew
          simp only [List.replicate_succ, List.replicate_zero]
          refine any_take (i := 0) (some 43) (.pointer (some ⟨d, 0, none⟩)) rfl (by rfl) (by kernel_rfl) (by kernel_rfl) (by kernel_rfl) (fun _ _ _ h => h) (Or.inl ⟨by kernel_rfl, (fun W hw => by clear hw; go_simp)⟩) hS ?_
          simp only [Act.put, List.setIfInBounds_toArray, List.set_cons_zero, List.set_cons_succ]
          refine any_take (i := 1) (some 44) (.slice (some ⟨b, off, none⟩) L.length c3) rfl (by rfl) (by kernel_rfl) (by kernel_rfl) (by kernel_rfl) (fun _ _ _ h => h) (Or.inl ⟨by kernel_rfl, (fun W hw => by clear hw; go_simp)⟩) hS ?_
          simp only [Act.put, List.setIfInBounds_toArray, List.set_cons_zero, List.set_cons_succ]
          refine any_take (i := 2) (some 45) (.int .i64 (j : Nat)) rfl (by rfl) (by kernel_rfl) (by kernel_rfl) (by kernel_rfl) (fun _ _ _ h => h) (Or.inl ⟨by kernel_rfl, (fun W hw => by clear hw; go_simp)⟩) hS ?_
          simp only [Act.put, List.setIfInBounds_toArray, List.set_cons_zero, List.set_cons_succ]
          refine any_take (i := 3) (some 46) (.pointer (some ⟨b, off + j * 8, none⟩)) rfl (by rfl) (by kernel_rfl) (by kernel_rfl) (by kernel_rfl) (fun _ _ _ h => h) (Or.inl ⟨by kernel_rfl, (fun W hw => by clear hw; go_simp)⟩) hS ?_
          simp only [Act.put, List.setIfInBounds_toArray, List.set_cons_zero, List.set_cons_succ]
          refine any_take (i := 4) (some 47) (.pointer (some ⟨b, off + j * 8, none⟩)) rfl (by rfl) (by kernel_rfl) (by kernel_rfl) (by kernel_rfl) (fun _ _ _ h => h) (Or.inl ⟨by kernel_rfl, (fun W hw => by clear hw; go_simp)⟩) hS ?_
          simp only [Act.put, List.setIfInBounds_toArray, List.set_cons_zero, List.set_cons_succ]
          refine any_take (i := 5) (some 48) (.agg #[.int .i64 k0, .int .i64 n0, .slice u1 u2 u3]) rfl (by rfl) (by kernel_rfl) (by kernel_rfl) (by kernel_rfl) (fun _ _ _ h => h) (Or.inl ⟨by kernel_rfl, (fun W hw => by obtain ⟨⟨n0_, n1_, n2_⟩, m0_, m1_, m2_⟩ := EX.out W hw; clear hw; go_simp)⟩) hS ?_
          simp only [Act.put, List.setIfInBounds_toArray, List.set_cons_zero, List.set_cons_succ]
          refine any_take (i := 6) (some 49) (.slice (some ⟨b, off, none⟩) L.length c3) rfl (by rfl) (by kernel_rfl) (by kernel_rfl) (by kernel_rfl) (fun _ _ _ h => h) (Or.inl ⟨by kernel_rfl, (fun W hw => by clear hw; go_simp)⟩) hS ?_
          simp only [Act.put, List.setIfInBounds_toArray, List.set_cons_zero, List.set_cons_succ]
          refine any_take (i := 7) (some 50) (.int .i64 (j : Nat)) rfl (by rfl) (by kernel_rfl) (by kernel_rfl) (by kernel_rfl) (fun _ _ _ h => h) (Or.inl ⟨by kernel_rfl, (fun W hw => by clear hw; go_simp)⟩) hS ?_
          simp only [Act.put, List.setIfInBounds_toArray, List.set_cons_zero, List.set_cons_succ]
          refine any_take (i := 8) (some 51) (.pointer (some ⟨b, off + j * 8, none⟩)) rfl (by rfl) (by kernel_rfl) (by kernel_rfl) (by kernel_rfl) (fun _ _ _ h => h) (Or.inl ⟨by kernel_rfl, (fun W hw => by clear hw; go_simp)⟩) hS ?_
          simp only [Act.put, List.setIfInBounds_toArray, List.set_cons_zero, List.set_cons_succ]
          refine any_take (i := 9) (some 52) (.pointer (some ⟨b, off + j * 8 + 3, none⟩)) rfl (by rfl) (by kernel_rfl) (by kernel_rfl) (by kernel_rfl) (fun _ _ _ h => h) (Or.inl ⟨by kernel_rfl, (fun W hw => by clear hw; go_simp)⟩) hS ?_
          simp only [Act.put, List.setIfInBounds_toArray, List.set_cons_zero, List.set_cons_succ]
          refine any_take (i := 10) (some 53) (.agg #[.int .i64 k1, .int .i64 n1, .slice v1 v2 v3]) rfl (by rfl) (by kernel_rfl) (by kernel_rfl) (by kernel_rfl) (fun _ _ _ h => h) (Or.inl ⟨by kernel_rfl, (fun W hw => by obtain ⟨⟨n0_, n1_, n2_⟩, m0_, m1_, m2_⟩ := EX.out W hw; clear hw; go_simp)⟩) hS ?_
          simp only [Act.put, List.setIfInBounds_toArray, List.set_cons_zero, List.set_cons_succ]
          refine wpAnyH_all (rs := [11]) (by kernel_rfl) (by simp) fun q' hq' => ?_
          obtain rfl : q' = 11 := by simpa using hq'
          refine ops_call (d := some 54) rfl (by rfl) (by kernel_rfl) (by go_simp) (HEQH.out.mono ?_)
          rintro e w8 ⟨⟨r8, rfl⟩, hT8, hb8⟩
          have hb8' : Below w4.heap.size w4 w8 := HT7.out.2.trans (((Below.refl _ w7).drew.mono HT7.out.2.size).trans hb8)
          have hS8 := HSF.out _ hb8'
          have HT8 := Lib.hid (And.intro hT8 hb8')
          clear hT8 hb8 hb8' HEQH
          refine ⟨_, rfl, hS8, ?_⟩
          simp only [Act.put, List.setIfInBounds_toArray, List.set_cons_zero, List.set_cons_succ]
          refine wpAnyH_done (by kernel_rfl) ?_ _
          clear hS hS8 EX HSF
          go_wp2_with fail
          obtain ⟨hT8, hb8⟩ := HT8.out
          have hst := cls_step L j hjl
          rw [HX.out.1] at hst
          refine ⟨⟨j + 1, congrArg (Value.int .i64) (by omega), by omega, ?_, hb8⟩, ?_⟩
          · rw [hst, show 2 * (j + 1) = 2 * j + 1 + 1 by omega]
            exact hT8
          · show L.length - (intOf (.int .i64 ((j : Int) + 1))).toNat < L.length - (intOf (.int .i64 (j : Nat))).toNat
            simp only [intOf]
            omega
        · have f1 : decide ((j : Int) < (L.length : Int)) = false := decide_eq_false (by omega)
          have hjj : j = L.length := by omega
          obtain ⟨s, hs⟩ : ∃ z, cls L = z := ⟨_, rfl⟩
          have HT0 : Hid (Two w4.heap.size wr c d s s 40 ∧ Below w4.heap.size w4 wr) := Lib.hid (by
            obtain ⟨h1, h2⟩ := HT.out
            rw [hjj, List.take_length, hs] at h1
            obtain ⟨Oc, Od, g1, g2, g3⟩ := h1
            exact ⟨⟨Oc, Od, g1.more (by omega), g2.more (by omega), g3⟩, h2⟩)
          have hsl : s.1.length ≤ 160 := by have := cls_len L; rw [hs] at this; omega
          have hgn : GN s.1 := by rw [← hs]; exact cls_GN L HW.out.1
          have HS := Lib.hid (And.intro hgn hsl)
          clear HT hs hgn
          go_wp2_with fail
          go_loopw [8] (fun s8 wr => ∃ j : Nat, s8 = .int .i64 (j : Nat) ∧ j ≤ M.length ∧ Two w4.heap.size wr c d s ((M.take j).foldl stp s) (40 + j) ∧ Below w4.heap.size w4 wr) (fun s _ => M.length - (intOf s).toNat)
          case atStart => exact ⟨0, rfl, Nat.zero_le _, HT0.out.1, HT0.out.2⟩
          case round =>
            obtain ⟨j, rfl, hj, hT, hb⟩ := hrel
            have HT := Lib.hid (And.intro hT hb)
            clear hT hb HT0 f1 hjj
            by_cases hjl : j < M.length
            · have f1 : decide ((j : Int) < (M.length : Int)) = true := decide_eq_true (by omega)
              obtain ⟨b, off, rfl, hat, hty⟩ : ∃ b off, A4 = some ⟨b, off, none⟩ ∧ (∀ W, Below w4.heap.size w4 W → EqAt W b (off + j * 8) M[j]) ∧ (∀ W, Below w4.heap.size w4 W → EqT w4.heap.size W M[j]) := by
                obtain ⟨b, off, hA, _, _⟩ := HE.out.2.at j hjl
                refine ⟨b, off, hA, fun W hb => ?_, fun W hb => (HE.out.2.below hb).ty j hjl⟩
                obtain ⟨b', off', hA', _, hat⟩ := (HE.out.2.below hb).at j hjl
                rw [hA] at hA'
                cases hA'
                exact hat
              obtain ⟨x, hx⟩ : ∃ x, M[j] = x := ⟨_, rfl⟩
              have hxw := HW.out.2 _ (List.getElem_mem hjl)
              have hxr := HRT.out.2 j hjl
              have hxs := sz_of hjl
              rw [hx] at hat hty hxw hxr hxs
              obtain ⟨S0, hSof, hSto⟩ : ∃ S0 : World → Prop, (∀ W : World, Below w4.heap.size w4 W → S0 W) ∧ (∀ W, S0 W → Below w4.heap.size w4 W) := ⟨_, fun _ h => h, fun _ h => h⟩
              obtain ⟨⟨k0, n0, ⟨u1, u2, u3⟩, F⟩, ⟨k1, n1, ⟨v1, v2, v3⟩, F'⟩, a0, a1⟩ := x
              have EX : Hid (∀ W, S0 W → (W.cell? ⟨b, off + j * 8, none⟩ = some (.int .i64 k0) ∧ W.cell? ⟨b, off + j * 8 + 1, none⟩ = some (.int .i64 n0) ∧ W.cell? ⟨b, off + j * 8 + 2, none⟩ = some (.slice u1 u2 u3)) ∧ W.cell? ⟨b, off + j * 8 + 3, none⟩ = some (.int .i64 k1) ∧ W.cell? ⟨b, off + j * 8 + 3 + 1, none⟩ = some (.int .i64 n1) ∧ W.cell? ⟨b, off + j * 8 + 3 + 2, none⟩ = some (.slice v1 v2 v3)) := Lib.hid fun W h => by
                obtain ⟨q0, q1, q2, q3, q4, q5, _, _⟩ := hat W (hSto W h)
                exact ⟨⟨q0, q1, q2⟩, q3, q4, q5⟩
              have HTY := Lib.hid hty
              have HX := Lib.hid (And.intro hx (And.intro hxw (And.intro hxr hxs)))
              have HSF := Lib.hid hSof
              clear hat hty hx hxw hxr hxs hSto hSof
              go_wp2_with fail
              have hd1 : Below w4.heap.size w4 wr.drew := HT.out.2.trans ((Below.refl _ wr).drew.mono HT.out.2.size)
              have hS : S0 wr.drew := HSF.out _ hd1
              have HEQ := two_right (HT.out.1.below (Below.refl _ wr).drew) hd1.size _ (HTY.out _ hd1) HX.out.2.1 HX.out.2.2.1 (by
                obtain ⟨⟨X, h1, h2⟩, _⟩ := fold_pre (M.take j) s
                have h3 := HX.out.2.2.2
                rw [h1, List.length_append]
                omega) (by omega)
              have HEQH := Lib.hid HEQ
              dsimp only [t1V, tyVal, slv] at HEQH
              clear HEQ hd1
              refine wp_region_held (S := S0) (by kernel_rfl) ?_
              change wpAnyH _ _ _ _ _ 12 (List.replicate 12 false).toArray _ wr.drew
              simp only [List.replicate_succ, List.replicate_zero]
              refine any_take (i := 0) (some 61) (.pointer (some ⟨d, 0, none⟩)) rfl (by rfl) (by kernel_rfl) (by kernel_rfl) (by kernel_rfl) (fun _ _ _ h => h) (Or.inl ⟨by kernel_rfl, (fun W hw => by clear hw; go_simp)⟩) hS ?_
              simp only [Act.put, List.setIfInBounds_toArray, List.set_cons_zero, List.set_cons_succ]
              refine any_take (i := 1) (some 62) (.slice (some ⟨b, off, none⟩) M.length c4) rfl (by rfl) (by kernel_rfl) (by kernel_rfl) (by kernel_rfl) (fun _ _ _ h => h) (Or.inl ⟨by kernel_rfl, (fun W hw => by clear hw; go_simp)⟩) hS ?_
              simp only [Act.put, List.setIfInBounds_toArray, List.set_cons_zero, List.set_cons_succ]
              refine any_take (i := 2) (some 63) (.int .i64 (j : Nat)) rfl (by rfl) (by kernel_rfl) (by kernel_rfl) (by kernel_rfl) (fun _ _ _ h => h) (Or.inl ⟨by kernel_rfl, (fun W hw => by clear hw; go_simp)⟩) hS ?_
              simp only [Act.put, List.setIfInBounds_toArray, List.set_cons_zero, List.set_cons_succ]
              refine any_take (i := 3) (some 64) (.pointer (some ⟨b, off + j * 8, none⟩)) rfl (by rfl) (by kernel_rfl) (by kernel_rfl) (by kernel_rfl) (fun _ _ _ h => h) (Or.inl ⟨by kernel_rfl, (fun W hw => by clear hw; go_simp)⟩) hS ?_
              simp only [Act.put, List.setIfInBounds_toArray, List.set_cons_zero, List.set_cons_succ]
              refine any_take (i := 4) (some 65) (.pointer (some ⟨b, off + j * 8, none⟩)) rfl (by rfl) (by kernel_rfl) (by kernel_rfl) (by kernel_rfl) (fun _ _ _ h => h) (Or.inl ⟨by kernel_rfl, (fun W hw => by clear hw; go_simp)⟩) hS ?_
              simp only [Act.put, List.setIfInBounds_toArray, List.set_cons_zero, List.set_cons_succ]
              refine any_take (i := 5) (some 66) (.agg #[.int .i64 k0, .int .i64 n0, .slice u1 u2 u3]) rfl (by rfl) (by kernel_rfl) (by kernel_rfl) (by kernel_rfl) (fun _ _ _ h => h) (Or.inl ⟨by kernel_rfl, (fun W hw => by obtain ⟨⟨n0_, n1_, n2_⟩, m0_, m1_, m2_⟩ := EX.out W hw; clear hw; go_simp)⟩) hS ?_
              simp only [Act.put, List.setIfInBounds_toArray, List.set_cons_zero, List.set_cons_succ]
              refine any_take (i := 6) (some 67) (.slice (some ⟨b, off, none⟩) M.length c4) rfl (by rfl) (by kernel_rfl) (by kernel_rfl) (by kernel_rfl) (fun _ _ _ h => h) (Or.inl ⟨by kernel_rfl, (fun W hw => by clear hw; go_simp)⟩) hS ?_
              simp only [Act.put, List.setIfInBounds_toArray, List.set_cons_zero, List.set_cons_succ]
              refine any_take (i := 7) (some 68) (.int .i64 (j : Nat)) rfl (by rfl) (by kernel_rfl) (by kernel_rfl) (by kernel_rfl) (fun _ _ _ h => h) (Or.inl ⟨by kernel_rfl, (fun W hw => by clear hw; go_simp)⟩) hS ?_
              simp only [Act.put, List.setIfInBounds_toArray, List.set_cons_zero, List.set_cons_succ]
              refine any_take (i := 8) (some 69) (.pointer (some ⟨b, off + j * 8, none⟩)) rfl (by rfl) (by kernel_rfl) (by kernel_rfl) (by kernel_rfl) (fun _ _ _ h => h) (Or.inl ⟨by kernel_rfl, (fun W hw => by clear hw; go_simp)⟩) hS ?_
              simp only [Act.put, List.setIfInBounds_toArray, List.set_cons_zero, List.set_cons_succ]
              refine any_take (i := 9) (some 70) (.pointer (some ⟨b, off + j * 8 + 3, none⟩)) rfl (by rfl) (by kernel_rfl) (by kernel_rfl) (by kernel_rfl) (fun _ _ _ h => h) (Or.inl ⟨by kernel_rfl, (fun W hw => by clear hw; go_simp)⟩) hS ?_
              simp only [Act.put, List.setIfInBounds_toArray, List.set_cons_zero, List.set_cons_succ]
              refine any_take (i := 10) (some 71) (.agg #[.int .i64 k1, .int .i64 n1, .slice v1 v2 v3]) rfl (by rfl) (by kernel_rfl) (by kernel_rfl) (by kernel_rfl) (fun _ _ _ h => h) (Or.inl ⟨by kernel_rfl, (fun W hw => by obtain ⟨⟨n0_, n1_, n2_⟩, m0_, m1_, m2_⟩ := EX.out W hw; clear hw; go_simp)⟩) hS ?_
              simp only [Act.put, List.setIfInBounds_toArray, List.set_cons_zero, List.set_cons_succ]
              refine wpAnyH_all (rs := [11]) (by kernel_rfl) (by simp) fun q' hq' => ?_
              obtain rfl : q' = 11 := by simpa using hq'
              refine ops_call (d := some 72) rfl (by rfl) (by kernel_rfl) (by go_simp) (HEQH.out.mono ?_)
              rintro e w8 ⟨⟨r8, rfl⟩, hT8, hb8⟩
              have hb8' : Below w4.heap.size w4 w8 := HT.out.2.trans (((Below.refl _ wr).drew.mono HT.out.2.size).trans hb8)
              have hS8 := HSF.out _ hb8'
              have HT8 := Lib.hid (And.intro hT8 hb8')
              clear hT8 hb8 hb8' HEQH
              refine ⟨_, rfl, hS8, ?_⟩
              simp only [Act.put, List.setIfInBounds_toArray, List.set_cons_zero, List.set_cons_succ]
              refine wpAnyH_done (by kernel_rfl) ?_ _
              clear hS hS8 EX HSF
              go_wp2_with fail
              obtain ⟨hT8, hb8⟩ := HT8.out
              have hst := fold_take M s j hjl
              rw [HX.out.1] at hst
              refine ⟨⟨j + 1, congrArg (Value.int .i64) (by omega), by omega, ?_, hb8⟩, ?_⟩
              · rw [hst]
                exact hT8
              · show M.length - (intOf (.int .i64 ((j : Int) + 1))).toNat < M.length - (intOf (.int .i64 (j : Nat))).toNat
                simp only [intOf]
                omega
            · have f1 : decide ((j : Int) < (M.length : Int)) = false := decide_eq_false (by omega)
              have hjj : j = M.length := by omega
              obtain ⟨t, ht⟩ : ∃ z, M.foldl stp s = z := ⟨_, rfl⟩
              have HT0 : Hid (Two w4.heap.size wr c d s t 60 ∧ Below w4.heap.size w4 wr) := Lib.hid (by
                obtain ⟨h1, h2⟩ := HT.out
                rw [hjj, List.take_length, ht] at h1
                obtain ⟨Oc, Od, g1, g2, g3⟩ := h1
                exact ⟨⟨Oc, Od, g1.more (by omega), g2.more (by omega), g3⟩, h2⟩)
              have htX : (∃ X, t.1 = s.1 ++ X) ∧ (∃ Y, t.2 = s.2 ++ Y) ∧ t.1.length ≤ 400 := by
                obtain ⟨⟨X, h1, h2⟩, Y, h3⟩ := fold_pre M s
                rw [ht] at h1 h3
                exact ⟨⟨X, h1⟩, ⟨Y, h3⟩, by rw [h1, List.length_append]; omega⟩
              have HX := Lib.hid htX
              have HER := Lib.hid (two_err HT0.out.1)
              clear HT ht htX
              go_wp2_with fail
              refine HER.out.mono ?_
              rintro e w7 ⟨⟨r, rfl, hr⟩, rfl⟩
              clear HER
              have HBW := Lib.hid (show Below w.heap.size w w7 from HB4.out.trans (HT0.out.2.mono HB4.out.size))
              rcases hr with ⟨rfl, _⟩ | ⟨rfl, hnc⟩
              · go_wp2_with fail
                refine (HAW.out w7).mono ?_
                rintro e w8 ⟨rfl, hb8⟩
                have HB8 := Lib.hid (HBW.out.trans (hb8.mono HBW.out.size))
                clear hb8
                go_wp2_with fail
                exact bodyPost_ret (results_tmp rfl _ _ _) rfl ⟨rfl, HB8.out⟩
              · have hns : ¬ Clash s.1 s.2 := fun h => hnc (h.later HX.out.1 HX.out.2.1)
                obtain ⟨Oc, Od, hc, hd, hOc, hOd, hdis⟩ := HT0.out.1
                have hqc := hc.cq hns
                have hqd := hd.cq hnc
                have hvc := vars_cq hqc (by omega) HS.out.1
                have HVC := Lib.hid hvc
                have HQ := Lib.hid (And.intro hqc (And.intro hqd (And.intro hOc (And.intro hOd (And.intro hdis (And.intro hns hnc))))))
                clear hc hd hqc hqd hOc hOd hdis hns hnc hvc
                go_wp2_with fail
                refine HVC.out.mono ?_
                clear HVC
                rintro e w8 ⟨v8, rfl, hrow, hb8⟩
                obtain ⟨A8, c8, rfl, _, _⟩ := Un.own_form hrow
                have hvl := vsort_len s.1
                obtain ⟨VS, hVS⟩ : ∃ z, vsort s.1 = z := ⟨_, rfl⟩
                obtain ⟨n, hn⟩ : ∃ z, VS.length = z := ⟨_, rfl⟩
                have hwf : ∀ i a, VS[i]? = some a → (Lit.int .i64 a).wf = true := fun i a h => HS.out.1.2 a (vsort_mem (by rw [hVS]; exact h))
                rw [hVS] at hrow hvl ⊢
                rw [hn] at hrow hvl ⊢
                have hn160 : n ≤ 160 := by omega
                have HB8 := Lib.hid (HBW.out.trans (hb8.mono HBW.out.size))
                have hq8 : CQ Oc w8 c s 6000000000 ∧ CQ Od w8 d t 6000000000 := ⟨(HQ.out.1.below hb8).more (by omega), (HQ.out.2.1.below hb8).more (by omega)⟩
                have HV8 := Lib.hid (And.intro hrow (And.intro hb8 (And.intro hq8 (And.intro hwf hn))))
                clear hrow hb8 hq8 hwf hVS hn HBW
                go_wp2_with fail
                go_loopw [10] (fun s10 wr => ∃ i : Nat, s10 = .int .i64 (i : Nat) ∧ i ≤ n ∧ CQ Oc wr c s (6000000000 + 100 * (300 * i : Nat)) ∧ CQ Od wr d t (6000000000 + 100 * (300 * i : Nat)) ∧ Else (fun k => Oc k ∨ Od k) w8 wr) (fun s _ => n - (intOf s).toNat)
                case atStart => exact ⟨0, rfl, Nat.zero_le _, by simpa using HV8.out.2.2.1.1, by simpa using HV8.out.2.2.1.2, Else.refl _ _⟩
                case round =>
                  obtain ⟨i, rfl, hi, hqc, hqd, hE⟩ := hrel
                  have HI := Lib.hid (And.intro hqc (And.intro hqd hE))
                  clear hqc hqd hE f1 hjj
                  by_cases hil : i < n
                  · have g1 : decide ((i : Int) < (n : Int)) = true := decide_eq_true (by omega)
                    obtain ⟨a, ha⟩ : ∃ a, VS[i]? = some a := ⟨_, List.getElem?_eq_getElem (by have := HV8.out.2.2.2.2; omega)⟩
                    have hwa := HV8.out.2.2.2.1 i a ha
                    obtain ⟨vb, cc8, e8, _, _⟩ := Un.own_shape HV8.out.1 (by omega)
                    cases e8
                    have hvb : ¬ (Oc vb ∨ Od vb) := by
                      have h1 := (HV8.out.1.lt vb rfl).1
                      rintro (h | h)
                      · have := (HQ.out.2.2.1 vb h).2; omega
                      · have := (HQ.out.2.2.2.1 vb h).2; omega
                    have HCELL : Hid (∀ W, Else (fun k => Oc k ∨ Od k) w8 W → ∀ z x, VS[z]? = some x → W.cell? ⟨vb, z, none⟩ = some (.int .i64 x)) := Lib.hid fun W hE z x hz => by
                      have hr := own_else HV8.out.1 hE fun k hk => by cases hk; exact hvb
                      have hzl : z < VS.length := lt_of_get hz
                      have hln := HV8.out.2.2.2.2
                      rw [hr.cellAt z (by omega)]
                      simp [ints, hz]
                    have HA := Lib.hid (And.intro ha hwa)
                    clear ha hwa hvb
                    go_wp2_with fail
                    go_loopw [11] (fun s11 wr => ∃ k : Nat, s11 = .int .i64 (k : Nat) ∧ k ≤ n ∧ CQ Oc wr c s (6000000000 + 100 * (300 * i + k : Nat)) ∧ CQ Od wr d t (6000000000 + 100 * (300 * i + k : Nat)) ∧ Else (fun k => Oc k ∨ Od k) w8 wr) (fun s _ => n - (intOf s).toNat)
                    case atStart => exact ⟨0, rfl, Nat.zero_le _, HI.out.1, HI.out.2.1, HI.out.2.2⟩
                    case round =>
                      obtain ⟨k, rfl, hk, hqc, hqd, hE⟩ := hrel
                      have HK := Lib.hid (And.intro hqc (And.intro hqd hE))
                      clear hqc hqd hE
                      by_cases hkl : k < n
                      · have g2 : decide ((k : Int) < (n : Int)) = true := decide_eq_true (by omega)
                        obtain ⟨b, hb⟩ : ∃ b, VS[k]? = some b := ⟨_, List.getElem?_eq_getElem (by have := HV8.out.2.2.2.2; omega)⟩
                        have hwb := HV8.out.2.2.2.1 k b hb
                        obtain ⟨S0, hSof, hSto⟩ : ∃ S0 : World → Prop, (∀ W : World, Else (fun k => Oc k ∨ Od k) w8 W → S0 W) ∧ (∀ W, S0 W → W.cell? ⟨vb, i, none⟩ = some (.int .i64 a) ∧ W.cell? ⟨vb, k, none⟩ = some (.int .i64 b)) := ⟨_, fun _ h => h, fun W h => ⟨HCELL.out W h i a HA.out.1, HCELL.out W h k b hb⟩⟩
                        have hd1 : Else (fun k => Oc k ∨ Od k) w8 wr.drew := Un.Else.drew HK.out.2.2
                        have hS : S0 wr.drew := hSof _ hd1
                        have HEQ := same_cq (HK.out.1.below (Below.refl _ wr).drew) (by omega) (by omega) a b HA.out.2 hwb
                        have HEQH := Lib.hid HEQ
                        have EX := Lib.hid hSto
                        have HSF := Lib.hid hSof
                        have HD1 := Lib.hid (And.intro hd1 (And.intro hb hwb))
                        clear hSto hSof hd1 hb hwb HEQ
                        go_wp2_with fail
                        refine wp_region_held (S := S0) (by kernel_rfl) ?_
                        change wpAnyH _ _ _ _ _ 23 (List.replicate 23 false).toArray _ wr.drew
                        simp only [List.replicate_succ, List.replicate_zero]
                        refine any_take (i := 0) (some 91) (.pointer (some ⟨c, 0, none⟩)) rfl (by rfl) (by kernel_rfl) (by kernel_rfl) (by kernel_rfl) (fun _ _ _ h => h) (Or.inl ⟨by kernel_rfl, (fun W hw => by clear hw; go_simp)⟩) hS ?_
                        simp only [Act.put, List.setIfInBounds_toArray, List.set_cons_zero, List.set_cons_succ]
                        refine any_take (i := 1) (some 92) (.slice (some ⟨vb, 0, none⟩) n c8) rfl (by rfl) (by kernel_rfl) (by kernel_rfl) (by kernel_rfl) (fun _ _ _ h => h) (Or.inl ⟨by kernel_rfl, (fun W hw => by clear hw; go_simp)⟩) hS ?_
                        simp only [Act.put, List.setIfInBounds_toArray, List.set_cons_zero, List.set_cons_succ]
                        refine any_take (i := 2) (some 93) (.int .i64 (i : Nat)) rfl (by rfl) (by kernel_rfl) (by kernel_rfl) (by kernel_rfl) (fun _ _ _ h => h) (Or.inl ⟨by kernel_rfl, (fun W hw => by clear hw; go_simp)⟩) hS ?_
                        simp only [Act.put, List.setIfInBounds_toArray, List.set_cons_zero, List.set_cons_succ]
                        refine any_take (i := 3) (some 94) (.pointer (some ⟨vb, i, none⟩)) rfl (by rfl) (by kernel_rfl) (by kernel_rfl) (by kernel_rfl) (fun _ _ _ h => h) (Or.inl ⟨by kernel_rfl, (fun W hw => by clear hw; go_simp)⟩) hS ?_
                        simp only [Act.put, List.setIfInBounds_toArray, List.set_cons_zero, List.set_cons_succ]
                        refine any_take (i := 4) (some 95) (.int .i64 a) rfl (by rfl) (by kernel_rfl) (by kernel_rfl) (by kernel_rfl) (fun _ _ _ h => h) (Or.inl ⟨by kernel_rfl, (fun W hw => by obtain ⟨n0_, n1_⟩ := EX.out W hw; clear hw; go_simp)⟩) hS ?_
                        simp only [Act.put, List.setIfInBounds_toArray, List.set_cons_zero, List.set_cons_succ]
                        refine any_take (i := 5) (some 96) (.slice (some ⟨vb, 0, none⟩) n c8) rfl (by rfl) (by kernel_rfl) (by kernel_rfl) (by kernel_rfl) (fun _ _ _ h => h) (Or.inl ⟨by kernel_rfl, (fun W hw => by clear hw; go_simp)⟩) hS ?_
                        simp only [Act.put, List.setIfInBounds_toArray, List.set_cons_zero, List.set_cons_succ]
                        refine any_take (i := 6) (some 97) (.int .i64 (k : Nat)) rfl (by rfl) (by kernel_rfl) (by kernel_rfl) (by kernel_rfl) (fun _ _ _ h => h) (Or.inl ⟨by kernel_rfl, (fun W hw => by clear hw; go_simp)⟩) hS ?_
                        simp only [Act.put, List.setIfInBounds_toArray, List.set_cons_zero, List.set_cons_succ]
                        refine any_take (i := 7) (some 98) (.pointer (some ⟨vb, k, none⟩)) rfl (by rfl) (by kernel_rfl) (by kernel_rfl) (by kernel_rfl) (fun _ _ _ h => h) (Or.inl ⟨by kernel_rfl, (fun W hw => by clear hw; go_simp)⟩) hS ?_
                        simp only [Act.put, List.setIfInBounds_toArray, List.set_cons_zero, List.set_cons_succ]
                        refine any_take (i := 8) (some 99) (.int .i64 b) rfl (by rfl) (by kernel_rfl) (by kernel_rfl) (by kernel_rfl) (fun _ _ _ h => h) (Or.inl ⟨by kernel_rfl, (fun W hw => by obtain ⟨n0_, n1_⟩ := EX.out W hw; clear hw; go_simp)⟩) hS ?_
                        simp only [Act.put, List.setIfInBounds_toArray, List.set_cons_zero, List.set_cons_succ]
                        refine wpAnyH_all (rs := [9]) (by kernel_rfl) (by simp) fun q' hq' => ?_
                        obtain rfl : q' = 9 := by simpa using hq'
                        refine ops_call (d := some 100) rfl (by rfl) (by kernel_rfl) (by go_simp) (HEQH.out.mono ?_)
                        rintro e w9 ⟨t1, rfl, ht1, hqc, hE⟩
                        have hE9 : Else (fun k => Oc k ∨ Od k) w8 w9 := HD1.out.1.trans (hE.mono fun j hj => .inl hj)
                        have hqd9 : CQ Od w9 d t (6000000000 + 100 * (300 * i + k : Nat)) := (HK.out.2.1.below (Below.refl _ wr).drew).keep hE fun j hd hc => HQ.out.2.2.2.2.1 j hc hd
                        have hS9 := HSF.out w9 hE9
                        have H9 := Lib.hid (And.intro hqc (And.intro hqd9 (And.intro hE9 ht1)))
                        clear hqc hqd9 hE9 ht1 hE HEQH
                        refine ⟨_, rfl, hS9, ?_⟩
                        simp only [Act.put, List.setIfInBounds_toArray, List.set_cons_zero, List.set_cons_succ]
                        cases t1 with
                        | false =>
                          refine any_take (i := 10) (some 101) (.bool false) rfl (by rfl) (by kernel_rfl) (by kernel_rfl) (by kernel_rfl) (fun _ _ _ h => h) (Or.inl ⟨by kernel_rfl, (fun W hw => by clear hw; go_simp)⟩) hS9 ?_
                          simp only [Act.put, List.setIfInBounds_toArray, List.set_cons_zero, List.set_cons_succ]
                          refine any_take (i := 11) (some 102) (undef) rfl (by rfl) (by kernel_rfl) (by kernel_rfl) (by kernel_rfl) (fun _ _ _ h => h) (Or.inr ⟨by kernel_rfl, rfl⟩) hS9 ?_
                          simp only [Act.put, List.setIfInBounds_toArray, List.set_cons_zero, List.set_cons_succ]
                          refine any_take (i := 12) (some 103) (undef) rfl (by rfl) (by kernel_rfl) (by kernel_rfl) (by kernel_rfl) (fun _ _ _ h => h) (Or.inr ⟨by kernel_rfl, rfl⟩) hS9 ?_
                          simp only [Act.put, List.setIfInBounds_toArray, List.set_cons_zero, List.set_cons_succ]
                          refine any_take (i := 13) (some 104) (undef) rfl (by rfl) (by kernel_rfl) (by kernel_rfl) (by kernel_rfl) (fun _ _ _ h => h) (Or.inr ⟨by kernel_rfl, rfl⟩) hS9 ?_
                          simp only [Act.put, List.setIfInBounds_toArray, List.set_cons_zero, List.set_cons_succ]
                          refine any_take (i := 14) (some 105) (undef) rfl (by rfl) (by kernel_rfl) (by kernel_rfl) (by kernel_rfl) (fun _ _ _ h => h) (Or.inr ⟨by kernel_rfl, rfl⟩) hS9 ?_
                          simp only [Act.put, List.setIfInBounds_toArray, List.set_cons_zero, List.set_cons_succ]
                          refine any_take (i := 15) (some 106) (undef) rfl (by rfl) (by kernel_rfl) (by kernel_rfl) (by kernel_rfl) (fun _ _ _ h => h) (Or.inr ⟨by kernel_rfl, rfl⟩) hS9 ?_
                          simp only [Act.put, List.setIfInBounds_toArray, List.set_cons_zero, List.set_cons_succ]
                          refine any_take (i := 16) (some 107) (undef) rfl (by rfl) (by kernel_rfl) (by kernel_rfl) (by kernel_rfl) (fun _ _ _ h => h) (Or.inr ⟨by kernel_rfl, rfl⟩) hS9 ?_
                          simp only [Act.put, List.setIfInBounds_toArray, List.set_cons_zero, List.set_cons_succ]
                          refine any_take (i := 17) (some 108) (undef) rfl (by rfl) (by kernel_rfl) (by kernel_rfl) (by kernel_rfl) (fun _ _ _ h => h) (Or.inr ⟨by kernel_rfl, rfl⟩) hS9 ?_
                          simp only [Act.put, List.setIfInBounds_toArray, List.set_cons_zero, List.set_cons_succ]
                          refine any_take (i := 18) (some 109) (undef) rfl (by rfl) (by kernel_rfl) (by kernel_rfl) (by kernel_rfl) (fun _ _ _ h => h) (Or.inr ⟨by kernel_rfl, rfl⟩) hS9 ?_
                          simp only [Act.put, List.setIfInBounds_toArray, List.set_cons_zero, List.set_cons_succ]
                          refine any_take (i := 19) (some 110) (undef) rfl (by rfl) (by kernel_rfl) (by kernel_rfl) (by kernel_rfl) (fun _ _ _ h => h) (Or.inr ⟨by kernel_rfl, rfl⟩) hS9 ?_
                          simp only [Act.put, List.setIfInBounds_toArray, List.set_cons_zero, List.set_cons_succ]
                          refine any_take (i := 20) (some 111) (undef) rfl (by rfl) (by kernel_rfl) (by kernel_rfl) (by kernel_rfl) (fun _ _ _ h => h) (Or.inr ⟨by kernel_rfl, rfl⟩) hS9 ?_
                          simp only [Act.put, List.setIfInBounds_toArray, List.set_cons_zero, List.set_cons_succ]
                          refine any_take (i := 21) (some 112) (undef) rfl (by rfl) (by kernel_rfl) (by kernel_rfl) (by kernel_rfl) (fun _ _ _ h => h) (Or.inr ⟨by kernel_rfl, rfl⟩) hS9 ?_
                          simp only [Act.put, List.setIfInBounds_toArray, List.set_cons_zero, List.set_cons_succ]
                          refine any_take (i := 22) (some 113) (.bool false) rfl (by rfl) (by kernel_rfl) (by kernel_rfl) (by kernel_rfl) (fun _ _ _ h => h) (Or.inl ⟨by kernel_rfl, (fun W hw => by clear hw; go_simp)⟩) hS9 ?_
                          simp only [Act.put, List.setIfInBounds_toArray, List.set_cons_zero, List.set_cons_succ]
                          refine wpAnyH_done (by kernel_rfl) ?_ _
                          clear hS hS9 EX HSF
                          go_wp2_with fail
                          refine ⟨⟨k + 1, congrArg (Value.int .i64) (by omega), by omega, H9.out.1.more (by push_cast; omega), H9.out.2.1.more (by push_cast; omega), H9.out.2.2.1⟩, ?_⟩
                          show n - (intOf (.int .i64 ((k : Int) + 1))).toNat < n - (intOf (.int .i64 (k : Nat))).toNat
                          simp only [intOf]
                          omega
                        | true =>
                          refine any_take (i := 10) (some 101) (.bool true) rfl (by rfl) (by kernel_rfl) (by kernel_rfl) (by kernel_rfl) (fun _ _ _ h => h) (Or.inl ⟨by kernel_rfl, (fun W hw => by clear hw; go_simp)⟩) hS9 ?_
                          simp only [Act.put, List.setIfInBounds_toArray, List.set_cons_zero, List.set_cons_succ]
                          refine any_take (i := 11) (some 102) (.pointer (some ⟨d, 0, none⟩)) rfl (by rfl) (by kernel_rfl) (by kernel_rfl) (by kernel_rfl) (fun _ _ _ h => h) (Or.inl ⟨by kernel_rfl, (fun W hw => by clear hw; go_simp)⟩) hS9 ?_
                          simp only [Act.put, List.setIfInBounds_toArray, List.set_cons_zero, List.set_cons_succ]
                          refine any_take (i := 12) (some 103) (.slice (some ⟨vb, 0, none⟩) n c8) rfl (by rfl) (by kernel_rfl) (by kernel_rfl) (by kernel_rfl) (fun _ _ _ h => h) (Or.inl ⟨by kernel_rfl, (fun W hw => by clear hw; go_simp)⟩) hS9 ?_
                          simp only [Act.put, List.setIfInBounds_toArray, List.set_cons_zero, List.set_cons_succ]
                          refine any_take (i := 13) (some 104) (.int .i64 (i : Nat)) rfl (by rfl) (by kernel_rfl) (by kernel_rfl) (by kernel_rfl) (fun _ _ _ h => h) (Or.inl ⟨by kernel_rfl, (fun W hw => by clear hw; go_simp)⟩) hS9 ?_
                          simp only [Act.put, List.setIfInBounds_toArray, List.set_cons_zero, List.set_cons_succ]
                          refine any_take (i := 14) (some 105) (.pointer (some ⟨vb, i, none⟩)) rfl (by rfl) (by kernel_rfl) (by kernel_rfl) (by kernel_rfl) (fun _ _ _ h => h) (Or.inl ⟨by kernel_rfl, (fun W hw => by clear hw; go_simp)⟩) hS9 ?_
                          simp only [Act.put, List.setIfInBounds_toArray, List.set_cons_zero, List.set_cons_succ]
                          refine any_take (i := 15) (some 106) (.int .i64 a) rfl (by rfl) (by kernel_rfl) (by kernel_rfl) (by kernel_rfl) (fun _ _ _ h => h) (Or.inl ⟨by kernel_rfl, (fun W hw => by obtain ⟨n0_, n1_⟩ := EX.out W hw; clear hw; go_simp)⟩) hS9 ?_
                          simp only [Act.put, List.setIfInBounds_toArray, List.set_cons_zero, List.set_cons_succ]
                          refine any_take (i := 16) (some 107) (.slice (some ⟨vb, 0, none⟩) n c8) rfl (by rfl) (by kernel_rfl) (by kernel_rfl) (by kernel_rfl) (fun _ _ _ h => h) (Or.inl ⟨by kernel_rfl, (fun W hw => by clear hw; go_simp)⟩) hS9 ?_
                          simp only [Act.put, List.setIfInBounds_toArray, List.set_cons_zero, List.set_cons_succ]
                          refine any_take (i := 17) (some 108) (.int .i64 (k : Nat)) rfl (by rfl) (by kernel_rfl) (by kernel_rfl) (by kernel_rfl) (fun _ _ _ h => h) (Or.inl ⟨by kernel_rfl, (fun W hw => by clear hw; go_simp)⟩) hS9 ?_
                          simp only [Act.put, List.setIfInBounds_toArray, List.set_cons_zero, List.set_cons_succ]
                          refine any_take (i := 18) (some 109) (.pointer (some ⟨vb, k, none⟩)) rfl (by rfl) (by kernel_rfl) (by kernel_rfl) (by kernel_rfl) (fun _ _ _ h => h) (Or.inl ⟨by kernel_rfl, (fun W hw => by clear hw; go_simp)⟩) hS9 ?_
                          simp only [Act.put, List.setIfInBounds_toArray, List.set_cons_zero, List.set_cons_succ]
                          refine any_take (i := 19) (some 110) (.int .i64 b) rfl (by rfl) (by kernel_rfl) (by kernel_rfl) (by kernel_rfl) (fun _ _ _ h => h) (Or.inl ⟨by kernel_rfl, (fun W hw => by obtain ⟨n0_, n1_⟩ := EX.out W hw; clear hw; go_simp)⟩) hS9 ?_
                          simp only [Act.put, List.setIfInBounds_toArray, List.set_cons_zero, List.set_cons_succ]
                          have HEQ := same_cq H9.out.2.1 (by omega) (by have := HX.out.2.2; omega) a b HA.out.2 HD1.out.2.2
                          have HEQH := Lib.hid HEQ
                          clear HEQ
                          refine wpAnyH_all (rs := [20]) (by kernel_rfl) (by simp) fun q' hq' => ?_
                          obtain rfl : q' = 20 := by simpa using hq'
                          refine ops_call (d := some 111) rfl (by rfl) (by kernel_rfl) (by go_simp) (HEQH.out.mono ?_)
                          rintro e w10 ⟨t2, rfl, ht2, hqd, hE⟩
                          obtain rfl : t2 = true := ht2.2 ((H9.out.2.2.2.1 rfl).later HX.out.1 HX.out.2.1)
                          have hE10 : Else (fun k => Oc k ∨ Od k) w8 w10 := H9.out.2.2.1.trans (hE.mono fun j hj => .inr hj)
                          have hqc10 := H9.out.1.keep hE fun j hc hd => HQ.out.2.2.2.2.1 j hc hd
                          have hS10 := HSF.out w10 hE10
                          have H10 := Lib.hid (And.intro hqc10 (And.intro hqd hE10))
                          clear hqd hqc10 hE10 ht2 hE HEQH
                          refine ⟨_, rfl, hS10, ?_⟩
                          simp only [Act.put, List.setIfInBounds_toArray, List.set_cons_zero, List.set_cons_succ]
                          refine any_take (i := 21) (some 112) (.bool false) rfl (by rfl) (by kernel_rfl) (by kernel_rfl) (by kernel_rfl) (fun _ _ _ h => h) (Or.inl ⟨by kernel_rfl, (fun W hw => by clear hw; go_simp)⟩) hS10 ?_
                          simp only [Act.put, List.setIfInBounds_toArray, List.set_cons_zero, List.set_cons_succ]
                          refine any_take (i := 22) (some 113) (.bool false) rfl (by rfl) (by kernel_rfl) (by kernel_rfl) (by kernel_rfl) (fun _ _ _ h => h) (Or.inl ⟨by kernel_rfl, (fun W hw => by clear hw; go_simp)⟩) hS10 ?_
                          simp only [Act.put, List.setIfInBounds_toArray, List.set_cons_zero, List.set_cons_succ]
                          refine wpAnyH_done (by kernel_rfl) ?_ _
                          clear hS hS9 hS10 EX HSF
                          go_wp2_with fail
                          refine ⟨⟨k + 1, congrArg (Value.int .i64) (by omega), by omega, H10.out.1.more (by push_cast; omega), H10.out.2.1.more (by push_cast; omega), H10.out.2.2⟩, ?_⟩
                          show n - (intOf (.int .i64 ((k : Int) + 1))).toNat < n - (intOf (.int .i64 (k : Nat))).toNat
                          simp only [intOf]
                          omega
                      · have g2 : decide ((k : Int) < (n : Int)) = false := decide_eq_false (by omega)
                        have hkk : k = n := by omega
                        obtain ⟨S0, hSof, hSto⟩ : ∃ S0 : World → Prop, (∀ W : World, Else (fun k => Oc k ∨ Od k) w8 W → S0 W) ∧ (∀ W, S0 W → W.cell? ⟨vb, i, none⟩ = some (.int .i64 a)) := ⟨_, fun _ h => h, fun W h => HCELL.out W h i a HA.out.1⟩
                        have hd1 : Else (fun k => Oc k ∨ Od k) w8 wr.drew := Un.Else.drew HK.out.2.2
                        have hS : S0 wr.drew := hSof _ hd1
                        have HEQ := kind_cq (HK.out.1.below (Below.refl _ wr).drew) (by omega) (by omega) a HA.out.2
                        have HEQH := Lib.hid HEQ
                        have EX := Lib.hid hSto
                        have HSF := Lib.hid hSof
                        have HD1 := Lib.hid hd1
                        clear hSto hSof hd1 HEQ
                        go_wp2_with fail
                        refine wp_region_held (S := S0) (by kernel_rfl) ?_
                        change wpAnyH _ _ _ _ _ 22 (List.replicate 22 false).toArray _ wr.drew
                        simp only [List.replicate_succ, List.replicate_zero]
                        refine any_take (i := 0) (some 114) (.pointer (some ⟨c, 0, none⟩)) rfl (by rfl) (by kernel_rfl) (by kernel_rfl) (by kernel_rfl) (fun _ _ _ h => h) (Or.inl ⟨by kernel_rfl, (fun W hw => by clear hw; go_simp)⟩) hS ?_
                        simp only [Act.put, List.setIfInBounds_toArray, List.set_cons_zero, List.set_cons_succ]
                        refine any_take (i := 1) (some 115) (.slice (some ⟨vb, 0, none⟩) n c8) rfl (by rfl) (by kernel_rfl) (by kernel_rfl) (by kernel_rfl) (fun _ _ _ h => h) (Or.inl ⟨by kernel_rfl, (fun W hw => by clear hw; go_simp)⟩) hS ?_
                        simp only [Act.put, List.setIfInBounds_toArray, List.set_cons_zero, List.set_cons_succ]
                        refine any_take (i := 2) (some 116) (.int .i64 (i : Nat)) rfl (by rfl) (by kernel_rfl) (by kernel_rfl) (by kernel_rfl) (fun _ _ _ h => h) (Or.inl ⟨by kernel_rfl, (fun W hw => by clear hw; go_simp)⟩) hS ?_
                        simp only [Act.put, List.setIfInBounds_toArray, List.set_cons_zero, List.set_cons_succ]
                        refine any_take (i := 3) (some 117) (.pointer (some ⟨vb, i, none⟩)) rfl (by rfl) (by kernel_rfl) (by kernel_rfl) (by kernel_rfl) (fun _ _ _ h => h) (Or.inl ⟨by kernel_rfl, (fun W hw => by clear hw; go_simp)⟩) hS ?_
                        simp only [Act.put, List.setIfInBounds_toArray, List.set_cons_zero, List.set_cons_succ]
                        refine any_take (i := 4) (some 118) (.int .i64 a) rfl (by rfl) (by kernel_rfl) (by kernel_rfl) (by kernel_rfl) (fun _ _ _ h => h) (Or.inl ⟨by kernel_rfl, (fun W hw => by have n0_ := EX.out W hw; clear hw; go_simp)⟩) hS ?_
                        simp only [Act.put, List.setIfInBounds_toArray, List.set_cons_zero, List.set_cons_succ]
                        refine wpAnyH_all (rs := [5]) (by kernel_rfl) (by simp) fun q' hq' => ?_
                        obtain rfl : q' = 5 := by simpa using hq'
                        refine ops_call (d := some 119) rfl (by rfl) (by kernel_rfl) (by go_simp) (HEQH.out.mono ?_)
                        rintro e w9 ⟨r1, rfl, hr1, hqc, hE⟩
                        have hE9 : Else (fun k => Oc k ∨ Od k) w8 w9 := HD1.out.trans (hE.mono fun j hj => .inl hj)
                        have hqd9 : CQ Od w9 d t (6000000000 + 100 * (300 * i + k : Nat)) := (HK.out.2.1.below (Below.refl _ wr).drew).keep hE fun j hd hc => HQ.out.2.2.2.2.1 j hc hd
                        have hS9 := HSF.out w9 hE9
                        have H9 := Lib.hid (And.intro hqc (And.intro hqd9 (And.intro hE9 hr1)))
                        clear hqc hqd9 hE9 hr1 hE HEQH
                        refine ⟨_, rfl, hS9, ?_⟩
                        simp only [Act.put, List.setIfInBounds_toArray, List.set_cons_zero, List.set_cons_succ]
                        by_cases hr0 : r1 = 0
                        · subst hr0
                          refine any_take (i := 6) (some 120) (.bool false) rfl (by rfl) (by kernel_rfl) (by kernel_rfl) (by kernel_rfl) (fun _ _ _ h => h) (Or.inl ⟨by kernel_rfl, (fun W hw => by clear hw; go_simp)⟩) hS9 ?_
                          simp only [Act.put, List.setIfInBounds_toArray, List.set_cons_zero, List.set_cons_succ]
                          refine any_take (i := 7) (some 121) (.bool false) rfl (by rfl) (by kernel_rfl) (by kernel_rfl) (by kernel_rfl) (fun _ _ _ h => h) (Or.inl ⟨by kernel_rfl, (fun W hw => by clear hw; go_simp)⟩) hS9 ?_
                          simp only [Act.put, List.setIfInBounds_toArray, List.set_cons_zero, List.set_cons_succ]
                          refine any_take (i := 8) (some 122) (undef) rfl (by rfl) (by kernel_rfl) (by kernel_rfl) (by kernel_rfl) (fun _ _ _ h => h) (Or.inr ⟨by kernel_rfl, rfl⟩) hS9 ?_
                          simp only [Act.put, List.setIfInBounds_toArray, List.set_cons_zero, List.set_cons_succ]
                          refine any_take (i := 9) (some 123) (undef) rfl (by rfl) (by kernel_rfl) (by kernel_rfl) (by kernel_rfl) (fun _ _ _ h => h) (Or.inr ⟨by kernel_rfl, rfl⟩) hS9 ?_
                          simp only [Act.put, List.setIfInBounds_toArray, List.set_cons_zero, List.set_cons_succ]
                          refine any_take (i := 10) (some 124) (undef) rfl (by rfl) (by kernel_rfl) (by kernel_rfl) (by kernel_rfl) (fun _ _ _ h => h) (Or.inr ⟨by kernel_rfl, rfl⟩) hS9 ?_
                          simp only [Act.put, List.setIfInBounds_toArray, List.set_cons_zero, List.set_cons_succ]
                          refine any_take (i := 11) (some 125) (undef) rfl (by rfl) (by kernel_rfl) (by kernel_rfl) (by kernel_rfl) (fun _ _ _ h => h) (Or.inr ⟨by kernel_rfl, rfl⟩) hS9 ?_
                          simp only [Act.put, List.setIfInBounds_toArray, List.set_cons_zero, List.set_cons_succ]
                          refine any_take (i := 12) (some 126) (undef) rfl (by rfl) (by kernel_rfl) (by kernel_rfl) (by kernel_rfl) (fun _ _ _ h => h) (Or.inr ⟨by kernel_rfl, rfl⟩) hS9 ?_
                          simp only [Act.put, List.setIfInBounds_toArray, List.set_cons_zero, List.set_cons_succ]
                          refine any_take (i := 13) (some 127) (undef) rfl (by rfl) (by kernel_rfl) (by kernel_rfl) (by kernel_rfl) (fun _ _ _ h => h) (Or.inr ⟨by kernel_rfl, rfl⟩) hS9 ?_
                          simp only [Act.put, List.setIfInBounds_toArray, List.set_cons_zero, List.set_cons_succ]
                          refine any_take (i := 14) (some 128) (undef) rfl (by rfl) (by kernel_rfl) (by kernel_rfl) (by kernel_rfl) (fun _ _ _ h => h) (Or.inr ⟨by kernel_rfl, rfl⟩) hS9 ?_
                          simp only [Act.put, List.setIfInBounds_toArray, List.set_cons_zero, List.set_cons_succ]
                          refine any_take (i := 15) (some 129) (undef) rfl (by rfl) (by kernel_rfl) (by kernel_rfl) (by kernel_rfl) (fun _ _ _ h => h) (Or.inr ⟨by kernel_rfl, rfl⟩) hS9 ?_
                          simp only [Act.put, List.setIfInBounds_toArray, List.set_cons_zero, List.set_cons_succ]
                          refine any_take (i := 16) (some 130) (undef) rfl (by rfl) (by kernel_rfl) (by kernel_rfl) (by kernel_rfl) (fun _ _ _ h => h) (Or.inr ⟨by kernel_rfl, rfl⟩) hS9 ?_
                          simp only [Act.put, List.setIfInBounds_toArray, List.set_cons_zero, List.set_cons_succ]
                          refine any_take (i := 17) (some 131) (undef) rfl (by rfl) (by kernel_rfl) (by kernel_rfl) (by kernel_rfl) (fun _ _ _ h => h) (Or.inr ⟨by kernel_rfl, rfl⟩) hS9 ?_
                          simp only [Act.put, List.setIfInBounds_toArray, List.set_cons_zero, List.set_cons_succ]
                          refine any_take (i := 18) (some 132) (undef) rfl (by rfl) (by kernel_rfl) (by kernel_rfl) (by kernel_rfl) (fun _ _ _ h => h) (Or.inr ⟨by kernel_rfl, rfl⟩) hS9 ?_
                          simp only [Act.put, List.setIfInBounds_toArray, List.set_cons_zero, List.set_cons_succ]
                          refine any_take (i := 19) (some 133) (undef) rfl (by rfl) (by kernel_rfl) (by kernel_rfl) (by kernel_rfl) (fun _ _ _ h => h) (Or.inr ⟨by kernel_rfl, rfl⟩) hS9 ?_
                          simp only [Act.put, List.setIfInBounds_toArray, List.set_cons_zero, List.set_cons_succ]
                          refine any_take (i := 20) (some 134) (undef) rfl (by rfl) (by kernel_rfl) (by kernel_rfl) (by kernel_rfl) (fun _ _ _ h => h) (Or.inr ⟨by kernel_rfl, rfl⟩) hS9 ?_
                          simp only [Act.put, List.setIfInBounds_toArray, List.set_cons_zero, List.set_cons_succ]
                          refine any_take (i := 21) (some 135) (.bool false) rfl (by rfl) (by kernel_rfl) (by kernel_rfl) (by kernel_rfl) (fun _ _ _ h => h) (Or.inl ⟨by kernel_rfl, (fun W hw => by clear hw; go_simp)⟩) hS9 ?_
                          simp only [Act.put, List.setIfInBounds_toArray, List.set_cons_zero, List.set_cons_succ]
                          refine wpAnyH_done (by kernel_rfl) ?_ _
                          clear hS hS9 EX HSF
                          go_wp2_with fail
                          refine ⟨⟨i + 1, congrArg (Value.int .i64) (by omega), by omega, H9.out.1.more (by push_cast; omega), H9.out.2.1.more (by push_cast; omega), H9.out.2.2.1⟩, ?_⟩
                          show n - (intOf (.int .i64 ((i : Int) + 1))).toNat < n - (intOf (.int .i64 (i : Nat))).toNat
                          simp only [intOf]
                          omega
                        · have hr0b : (r1 != 0) = true := by simpa using hr0
                          refine any_take (i := 6) (some 120) (.bool true) rfl (by rfl) (by kernel_rfl) (by kernel_rfl) (by kernel_rfl) (fun _ _ _ h => h) (Or.inl ⟨by kernel_rfl, (fun W hw => by clear hw; go_simp)⟩) hS9 ?_
                          simp only [Act.put, List.setIfInBounds_toArray, List.set_cons_zero, List.set_cons_succ]
                          refine any_take (i := 7) (some 121) (.bool true) rfl (by rfl) (by kernel_rfl) (by kernel_rfl) (by kernel_rfl) (fun _ _ _ h => h) (Or.inl ⟨by kernel_rfl, (fun W hw => by clear hw; go_simp)⟩) hS9 ?_
                          simp only [Act.put, List.setIfInBounds_toArray, List.set_cons_zero, List.set_cons_succ]
                          refine any_take (i := 8) (some 122) (.pointer (some ⟨d, 0, none⟩)) rfl (by rfl) (by kernel_rfl) (by kernel_rfl) (by kernel_rfl) (fun _ _ _ h => h) (Or.inl ⟨by kernel_rfl, (fun W hw => by clear hw; go_simp)⟩) hS9 ?_
                          simp only [Act.put, List.setIfInBounds_toArray, List.set_cons_zero, List.set_cons_succ]
                          refine any_take (i := 9) (some 123) (.slice (some ⟨vb, 0, none⟩) n c8) rfl (by rfl) (by kernel_rfl) (by kernel_rfl) (by kernel_rfl) (fun _ _ _ h => h) (Or.inl ⟨by kernel_rfl, (fun W hw => by clear hw; go_simp)⟩) hS9 ?_
                          simp only [Act.put, List.setIfInBounds_toArray, List.set_cons_zero, List.set_cons_succ]
                          refine any_take (i := 10) (some 124) (.int .i64 (i : Nat)) rfl (by rfl) (by kernel_rfl) (by kernel_rfl) (by kernel_rfl) (fun _ _ _ h => h) (Or.inl ⟨by kernel_rfl, (fun W hw => by clear hw; go_simp)⟩) hS9 ?_
                          simp only [Act.put, List.setIfInBounds_toArray, List.set_cons_zero, List.set_cons_succ]
                          refine any_take (i := 11) (some 125) (.pointer (some ⟨vb, i, none⟩)) rfl (by rfl) (by kernel_rfl) (by kernel_rfl) (by kernel_rfl) (fun _ _ _ h => h) (Or.inl ⟨by kernel_rfl, (fun W hw => by clear hw; go_simp)⟩) hS9 ?_
                          simp only [Act.put, List.setIfInBounds_toArray, List.set_cons_zero, List.set_cons_succ]
                          refine any_take (i := 12) (some 126) (.int .i64 a) rfl (by rfl) (by kernel_rfl) (by kernel_rfl) (by kernel_rfl) (fun _ _ _ h => h) (Or.inl ⟨by kernel_rfl, (fun W hw => by have n0_ := EX.out W hw; clear hw; go_simp)⟩) hS9 ?_
                          simp only [Act.put, List.setIfInBounds_toArray, List.set_cons_zero, List.set_cons_succ]
                          refine any_take (i := 14) (some 128) (.pointer (some ⟨c, 0, none⟩)) rfl (by rfl) (by kernel_rfl) (by kernel_rfl) (by kernel_rfl) (fun _ _ _ h => h) (Or.inl ⟨by kernel_rfl, (fun W hw => by clear hw; go_simp)⟩) hS9 ?_
                          simp only [Act.put, List.setIfInBounds_toArray, List.set_cons_zero, List.set_cons_succ]
                          refine any_take (i := 15) (some 129) (.slice (some ⟨vb, 0, none⟩) n c8) rfl (by rfl) (by kernel_rfl) (by kernel_rfl) (by kernel_rfl) (fun _ _ _ h => h) (Or.inl ⟨by kernel_rfl, (fun W hw => by clear hw; go_simp)⟩) hS9 ?_
                          simp only [Act.put, List.setIfInBounds_toArray, List.set_cons_zero, List.set_cons_succ]
                          refine any_take (i := 16) (some 130) (.int .i64 (i : Nat)) rfl (by rfl) (by kernel_rfl) (by kernel_rfl) (by kernel_rfl) (fun _ _ _ h => h) (Or.inl ⟨by kernel_rfl, (fun W hw => by clear hw; go_simp)⟩) hS9 ?_
                          simp only [Act.put, List.setIfInBounds_toArray, List.set_cons_zero, List.set_cons_succ]
                          refine any_take (i := 17) (some 131) (.pointer (some ⟨vb, i, none⟩)) rfl (by rfl) (by kernel_rfl) (by kernel_rfl) (by kernel_rfl) (fun _ _ _ h => h) (Or.inl ⟨by kernel_rfl, (fun W hw => by clear hw; go_simp)⟩) hS9 ?_
                          simp only [Act.put, List.setIfInBounds_toArray, List.set_cons_zero, List.set_cons_succ]
                          refine any_take (i := 18) (some 132) (.int .i64 a) rfl (by rfl) (by kernel_rfl) (by kernel_rfl) (by kernel_rfl) (fun _ _ _ h => h) (Or.inl ⟨by kernel_rfl, (fun W hw => by have n0_ := EX.out W hw; clear hw; go_simp)⟩) hS9 ?_
                          simp only [Act.put, List.setIfInBounds_toArray, List.set_cons_zero, List.set_cons_succ]
                          have HEQ := kind_cq H9.out.2.1 (by omega) (by have := HX.out.2.2; omega) a HA.out.2
                          have HEQH := Lib.hid HEQ
                          clear HEQ
                          refine wpAnyH_all (rs := [13]) (by kernel_rfl) (by simp) fun q' hq' => ?_
                          obtain rfl : q' = 13 := by simpa using hq'
                          refine ops_call (d := some 127) rfl (by rfl) (by kernel_rfl) (by go_simp) (HEQH.out.mono ?_)
                          rintro e w10 ⟨r2, rfl, hr2, hqd, hE⟩
                          obtain rfl : r2 = r1 := KindIs.later HX.out.1 HX.out.2.1 HQ.out.2.2.2.2.2.2 H9.out.2.2.2 hr2 hr0
                          have hE10 : Else (fun k => Oc k ∨ Od k) w8 w10 := H9.out.2.2.1.trans (hE.mono fun j hj => .inr hj)
                          have hqc10 := H9.out.1.keep hE fun j hc hd => HQ.out.2.2.2.2.1 j hc hd
                          have hS10 := HSF.out w10 hE10
                          have H10 := Lib.hid (And.intro hqc10 (And.intro hqd hE10))
                          clear hqd hqc10 hE10 hr2 hE HEQH
                          refine ⟨_, rfl, hS10, ?_⟩
                          simp only [Act.put, List.setIfInBounds_toArray, List.set_cons_zero, List.set_cons_succ]
                          have HEQ := kind_cq H10.out.1 (by omega) (by omega) a HA.out.2
                          have HEQH := Lib.hid HEQ
                          clear HEQ
                          refine wpAnyH_all (rs := [19]) (by kernel_rfl) (by simp) fun q' hq' => ?_
                          obtain rfl : q' = 19 := by simpa using hq'
                          refine ops_call (d := some 133) rfl (by rfl) (by kernel_rfl) (by go_simp) (HEQH.out.mono ?_)
                          rintro e w11 ⟨r3, rfl, hr3, hqc, hE⟩
                          obtain rfl : r3 = r2 := KindIs.later (s := s) (t := s) ⟨[], by simp⟩ ⟨[], by simp⟩ HQ.out.2.2.2.2.2.1 H9.out.2.2.2 hr3 hr0
                          have hE11 : Else (fun k => Oc k ∨ Od k) w8 w11 := H10.out.2.2.trans (hE.mono fun j hj => .inl hj)
                          have hqd11 := H10.out.2.1.keep hE fun j hd hc => HQ.out.2.2.2.2.1 j hc hd
                          have hS11 := HSF.out w11 hE11
                          have H11 := Lib.hid (And.intro hqc (And.intro hqd11 hE11))
                          clear hqc hqd11 hE11 hr3 hE HEQH
                          refine ⟨_, rfl, hS11, ?_⟩
                          simp only [Act.put, List.setIfInBounds_toArray, List.set_cons_zero, List.set_cons_succ]
                          refine any_take (i := 20) (some 134) (.bool false) rfl (by rfl) (by kernel_rfl) (by kernel_rfl) (by kernel_rfl) (fun _ _ _ h => h) (Or.inl ⟨by kernel_rfl, (fun W hw => by clear hw; go_simp)⟩) hS11 ?_
                          simp only [Act.put, List.setIfInBounds_toArray, List.set_cons_zero, List.set_cons_succ]
                          refine any_take (i := 21) (some 135) (.bool false) rfl (by rfl) (by kernel_rfl) (by kernel_rfl) (by kernel_rfl) (fun _ _ _ h => h) (Or.inl ⟨by kernel_rfl, (fun W hw => by clear hw; go_simp)⟩) hS11 ?_
                          simp only [Act.put, List.setIfInBounds_toArray, List.set_cons_zero, List.set_cons_succ]
                          refine wpAnyH_done (by kernel_rfl) ?_ _
                          clear hS hS9 hS10 hS11 EX HSF
                          go_wp2_with fail
                          refine ⟨⟨i + 1, congrArg (Value.int .i64) (by omega), by omega, H11.out.1.more (by push_cast; omega), H11.out.2.1.more (by push_cast; omega), H11.out.2.2⟩, ?_⟩
                          show n - (intOf (.int .i64 ((i : Int) + 1))).toNat < n - (intOf (.int .i64 (i : Nat))).toNat
                          simp only [intOf]
                          omega
                  · have g1 : decide ((i : Int) < (n : Int)) = false := decide_eq_false (by omega)
                    have HER := Lib.hid (err_cq HI.out.1)
                    go_wp2_with fail
                    refine HER.out.mono ?_
                    rintro e w9 ⟨rfl, rfl⟩
                    clear HER
                    have HB9 := Lib.hid (show Below w.heap.size w w9 from HB8.out.trans (HI.out.2.2.below (fun j hj => by
                      have h4 := HB4.out.size
                      rcases hj with hj | hj
                      · have := (HQ.out.2.2.1 j hj).1; omega
                      · have := (HQ.out.2.2.2.1 j hj).1; omega) HB8.out.size))
                    go_wp2_with fail
                    refine (HAW.out w9).mono ?_
                    rintro e w10 ⟨rfl, hb10⟩
                    have HB10 := Lib.hid (HB9.out.trans (hb10.mono HB9.out.size))
                    clear hb10
                    go_wp2_with fail
                    exact bodyPost_ret (results_tmp rfl _ _ _) rfl ⟨rfl, HB10.out⟩
end Go.Proofs.Ytcaclgaaaanfnaa
