/- Texts of one proof, one behind the other. -/
import Derived.Test.YtcaclgaaaanfnaaMgUnifyOrder33
/- UnifyOrder, walked. -/
namespace Go.Proofs.Ytcaclgaaaanfnaa
open Go.RowKit
open Un (Else dg cnt own_else RdB wp_world)
set_option maxRecDepth 100000
/-- What the second closure has had. -/
structure Had (L D : List Eqn) (m : Nat) : Prop where
  of : ∀ x ∈ D, ∃ y ∈ L, x = y ∨ x = flipE y
  sz : esz D ≤ m
theorem Had.snoc {L D : List Eqn} {m m' : Nat} {x y : Eqn} (h : Had L D m) (hy : y ∈ L) (hx : x = y ∨ x = flipE y) (hm : m + sz1 y ≤ m') : Had L (D ++ [x]) m' := by
  refine ⟨fun z hz => ?_, ?_⟩
  · rcases List.mem_append.1 hz with hz | hz
    · exact h.of z hz
    · rw [List.mem_singleton.1 hz]; exact ⟨y, hy, hx⟩
  · have e : esz (D ++ [x]) = esz D + sz1 x := by simp [esz]
    have e2 : sz1 x = sz1 y := by
      rcases hx with rfl | rfl
      · rfl
      · unfold sz1 flipE; dsimp only; omega
    have := h.sz
    omega
theorem cls_snoc (D : List Eqn) (x : Eqn) : cls (D ++ [x]) = stp (cls D) x := by rw [cls_app]; rfl
theorem sz1_mem {L : List Eqn} {y : Eqn} (h : y ∈ L) : sz1 y ≤ esz L := by
  obtain ⟨i, hi, rfl⟩ := List.mem_iff_getElem.1 h
  have := sz_of hi
  omega
theorem rtE_flip {x : Eqn} (h : rtE x = true) : rtE (flipE x) = true := by
  unfold rtE flipE at *
  rw [Bool.and_comm]
  exact h
theorem sz1_flip (x : Eqn) : sz1 (flipE x) = sz1 x := by unfold sz1 flipE; dsimp only; omega
/-- One equation more for the second closure. -/
theorem eq_in {w4 wr W : World} {c d b : Nat} {s : Sys} {D : List Eqn} (hT : Two w4.heap.size wr c d s (cls D) b) (hb : Below w4.heap.size w4 wr) (hW : Below wr.heap.size wr W) (x : Eqn) (hx : EqT w4.heap.size wr x) (hw : TyW x.1 ∧ TyW x.2.1) (hr : rtE x = true) (hs : (cls D).1.length + sz1 x ≤ 8000) (hb5 : b ≤ 500) :
    Calls Try.prog 15 #[.pointer (some ⟨d, 0, none⟩), t1V x.1, t1V x.2.1] W fun e w' => (∃ r, e = .returned (.int .i64 r)) ∧ Two w4.heap.size w' c d s (cls (D ++ [x])) (b + 1) ∧ Below w4.heap.size w4 w' := by
  have hbW := hb.trans (hW.mono hb.size)
  have hxW : EqT w4.heap.size W x := hx.keep (Nat.le_refl _) fun b off hlt => (hW.mono hb.size).cell (p := ⟨b, off, none⟩) hlt
  refine (two_right (hT.below hW) hbW.size x hxW hw hr hs hb5).mono ?_
  rintro e w' ⟨h1, h2, h3⟩
  rw [cls_snoc]
  exact ⟨h1, h2, hbW.trans h3⟩
theorem two_err1 {w : World} {B b c d : Nat} {s t : Sys} (h : Two B w c d s t b) : Calls Try.prog 29 #[.pointer (some ⟨c, 0, none⟩)] w fun e w' => (∃ r : Int, e = .returned (.int .i64 r) ∧ ((r = 7 ∧ Clash s.1 s.2) ∨ (r = 0 ∧ ¬ Clash s.1 s.2))) ∧ w' = w := two_err h.flip
theorem Clo.cx {O : Nat → Prop} {w : World} {cb b : Nat} {s : Sys} (h : Clo O w cb s b) (hc : Clash s.1 s.2) : ∃ st, CxM w cb st := by
  rcases h with ⟨_, _, _, hC, _⟩ | ⟨_, _, _, h⟩
  · exact absurd hc hC.noClash
  · exact h
theorem CxM.below {w w' : World} {cb : Nat} {st : Int} (h : CxM w cb st) (hb : Below w.heap.size w w') : CxM w' cb st := (hb.block cb (Array.getElem?_eq_some_iff.1 h).1).trans h
set_option maxHeartbeats 8000000 in
theorem uorder_law (w : World) (l : List Eqn) (ord : List Nat) (v v2 : Value) (hl : ArgE w v l) (ho : RdB w v2 ord) :
    Calls Try.prog 5 #[v, v2] w fun e w' => e = .returned (.bool true) ∧ Below w.heap.size w w' := by
  have HG1 := Lib.hid (great12_any w l v hl.1 hl.1.len_le)
  have HL := Lib.hid hl
  have HO := Lib.hid ho
  have HAW := Lib.hid awake12
  obtain ⟨Al, cl, rfl⟩ := hl.1.form
  obtain ⟨Ao, co, rfl⟩ := ho.slice
  clear hl ho
  go_enter Try.func5, Try.ntmps5
  go_wp2_with fail
  refine HG1.out.mono ?_
  clear HG1
  rintro e w1 ⟨g1, rfl, hg1, hb1⟩
  have HB1 := Lib.hid hb1
  clear hb1
  cases g1 with
  | true =>
    clear hg1
    go_wp2_with fail
    refine (HAW.out w1).mono ?_
    rintro e w2 ⟨rfl, hb2⟩
    have HB2 := Lib.hid (HB1.out.trans (hb2.mono HB1.out.size))
    clear hb2
    go_wp2_with fail
    exact bodyPost_ret (results_tmp rfl _ _ _) rfl ⟨rfl, HB2.out⟩
  | false =>
    have hl1 := hg1 rfl
    clear hg1
    by_cases ho40 : 40 < ord.length
    · have f0 : decide ((40 : Int) < (ord.length : Int)) = true := decide_eq_true (by omega)
      go_wp2_with fail
      refine (HAW.out w1).mono ?_
      rintro e w2 ⟨rfl, hb2⟩
      have HB2 := Lib.hid (HB1.out.trans (hb2.mono HB1.out.size))
      clear hb2
      go_wp2_with fail
      exact bodyPost_ret (results_tmp rfl _ _ _) rfl ⟨rfl, HB2.out⟩
    · have f0 : decide ((40 : Int) < (ord.length : Int)) = false := decide_eq_false (by omega)
      have HR1 := Lib.hid (rights12_any w1 l (.slice Al l.length cl) (HL.out.1.later HB1.out) hl1.1 hl1.2)
      go_wp2_with fail
      refine HR1.out.mono ?_
      clear HR1
      rintro e w4 ⟨v3, rfl, he3, hb3⟩
      have HB4 := Lib.hid (HB1.out.trans (hb3.mono HB1.out.size))
      obtain ⟨A3, c3, rfl⟩ := he3.form
      have HE := Lib.hid he3
      have hn1 : (rights l).length ≤ 20 := Nat.le_trans (rights_len l) hl1.1
      have hz1 : esz (rights l) ≤ 160 := Nat.le_trans (esz_rights l) hl1.2
      have HW := Lib.hid (EqW.rights HL.out.2)
      have HRT := Lib.hid (fun j (hj : j < (rights l).length) => rt_of hj)
      obtain ⟨L, hL⟩ : ∃ z, rights l = z := ⟨_, rfl⟩
      rw [hL] at HE HW HRT hn1 hz1 ⊢
      have HEK : Hid (∀ x ∈ L, Eok x) := Lib.hid fun x hx => by
        obtain ⟨i, hi, rfl⟩ := List.mem_iff_getElem.1 hx
        exact eok_of (HE.out.ty i hi) (HW.out _ hx) (HRT.out i hi)
      have HORD : Hid (∀ W, Below w4.heap.size w4 W → RdB W (.slice Ao ord.length co) ord) := Lib.hid fun W hb => HO.out.below (HB4.out.trans (hb.mono HB4.out.size))
      clear hb3 he3 hl1 hL f0
      go_wp2_with fail
      refine (new_cs w4).mono ?_
      rintro e w5 ⟨c, rfl, hC5, hb5⟩
      have H5 := Lib.hid (And.intro hC5 hb5)
      clear hC5 hb5
      go_wp2_with fail
      refine (new_cs w5).mono ?_
      rintro e w6 ⟨d, rfl, hC6, hb6⟩
      have HTW := Lib.hid (Two.new H5.out.1 H5.out.2 hC6 hb6)
      have HB6 := Lib.hid (show Below w4.heap.size w4 w6 from H5.out.2.trans (hb6.mono H5.out.2.size))
      clear hC6 hb6 H5
      go_wp2_with fail
      go_loopw [7] (fun s wr => ∃ j : Nat, s = .int .i64 (j : Nat) ∧ j ≤ L.length ∧ Two w4.heap.size wr c d (cls (L.take j)) ([], []) j ∧ Below w4.heap.size w4 wr) (fun s _ => L.length - (intOf s).toNat)
      case atStart => exact ⟨0, rfl, Nat.zero_le _, HTW.out, HB6.out⟩
      case round =>
        obtain ⟨j, rfl, hj, hT, hb⟩ := hrel
        have HT := Lib.hid (And.intro hT hb)
        clear hT hb HTW HB6
        by_cases hjl : j < L.length
        · have f1 : decide ((j : Int) < (L.length : Int)) = true := decide_eq_true (by omega)
          obtain ⟨b, off, rfl, hat, hty⟩ : ∃ b off, A3 = some ⟨b, off, none⟩ ∧ (∀ W, Below w4.heap.size w4 W → EqAt W b (off + j * 8) L[j]) ∧ (∀ W, Below w4.heap.size w4 W → EqT w4.heap.size W L[j]) := by
            obtain ⟨b, off, hA, _, _⟩ := HE.out.at j hjl
            refine ⟨b, off, hA, fun W hb => ?_, fun W hb => (HE.out.below hb).ty j hjl⟩
            obtain ⟨b', off', hA', _, hat⟩ := (HE.out.below hb).at j hjl
            rw [hA] at hA'
            cases hA'
            exact hat
          obtain ⟨x, hx⟩ : ∃ x, L[j] = x := ⟨_, rfl⟩
          have hxw := HW.out _ (List.getElem_mem hjl)
          have hxr := HRT.out j hjl
          have hxs := sz_of hjl
          rw [hx] at hat hty hxw hxr hxs
          obtain ⟨S0, hSof, hSto⟩ : ∃ S0 : World → Prop, (∀ W : World, Below w4.heap.size w4 W → S0 W) ∧ (∀ W, S0 W → Below w4.heap.size w4 W) := ⟨_, fun _ h => h, fun _ h => h⟩
          obtain ⟨⟨k0, n0, ⟨u1, u2, u3⟩, F⟩, ⟨k1, n1, ⟨v1, v2, v3⟩, F'⟩, a0, a1⟩ := x
          have EX : Hid (∀ W, S0 W → (W.cell? ⟨b, off + j * 8, none⟩ = some (.int .i64 k0) ∧ W.cell? ⟨b, off + j * 8 + 1, none⟩ = some (.int .i64 n0) ∧ W.cell? ⟨b, off + j * 8 + 2, none⟩ = some (.slice u1 u2 u3)) ∧ W.cell? ⟨b, off + j * 8 + 3, none⟩ = some (.int .i64 k1) ∧ W.cell? ⟨b, off + j * 8 + 3 + 1, none⟩ = some (.int .i64 n1) ∧ W.cell? ⟨b, off + j * 8 + 3 + 2, none⟩ = some (.slice v1 v2 v3)) := Lib.hid fun W h => by
            obtain ⟨q0, q1, q2, q3, q4, q5, _, _⟩ := hat W (hSto W h)
            exact ⟨⟨q0, q1, q2⟩, q3, q4, q5⟩
          have HTY := Lib.hid hty
          have HX := Lib.hid (And.intro hx (And.intro hxw (And.intro hxr hxs)))
          have HSF := Lib.hid hSof
          clear hat hty hx hxw hxr hxs hSto hSof
          go_wp2_with fail
          have hd1 : Below w4.heap.size w4 wr.drew := HT.out.2.trans ((Below.refl _ wr).drew.mono HT.out.2.size)
          have hS : S0 wr.drew := HSF.out _ hd1
          have HEQ := two_left (HT.out.1.below (Below.refl _ wr).drew) hd1.size _ (HTY.out _ hd1) HX.out.2.1 HX.out.2.2.1 (by have h1 := cls_len (L.take j); have h2 := HX.out.2.2.2; omega) (by omega)
          have HEQH := Lib.hid HEQ
          dsimp only [t1V, tyVal, slv] at HEQH
          clear HEQ hd1
          refine wp_region_held (S := S0) (by kernel_rfl) ?_
          change wpAnyH _ _ _ _ _ 12 (List.replicate 12 false).toArray _ wr.drew
          simp only [List.replicate_succ, List.replicate_zero]
          refine any_take (i := 0) (some 31) (.pointer (some ⟨c, 0, none⟩)) rfl (by rfl) (by kernel_rfl) (by kernel_rfl) (by kernel_rfl) (fun _ _ _ h => h) (Or.inl ⟨by kernel_rfl, (fun W hw => by clear hw; go_simp)⟩) hS ?_
          simp only [Act.put, List.setIfInBounds_toArray, List.set_cons_zero, List.set_cons_succ]
          refine any_take (i := 1) (some 32) (.slice (some ⟨b, off, none⟩) L.length c3) rfl (by rfl) (by kernel_rfl) (by kernel_rfl) (by kernel_rfl) (fun _ _ _ h => h) (Or.inl ⟨by kernel_rfl, (fun W hw => by clear hw; go_simp)⟩) hS ?_
          simp only [Act.put, List.setIfInBounds_toArray, List.set_cons_zero, List.set_cons_succ]
          refine any_take (i := 2) (some 33) (.int .i64 (j : Nat)) rfl (by rfl) (by kernel_rfl) (by kernel_rfl) (by kernel_rfl) (fun _ _ _ h => h) (Or.inl ⟨by kernel_rfl, (fun W hw => by clear hw; go_simp)⟩) hS ?_
          simp only [Act.put, List.setIfInBounds_toArray, List.set_cons_zero, List.set_cons_succ]
          refine any_take (i := 3) (some 34) (.pointer (some ⟨b, off + j * 8, none⟩)) rfl (by rfl) (by kernel_rfl) (by kernel_rfl) (by kernel_rfl) (fun _ _ _ h => h) (Or.inl ⟨by kernel_rfl, (fun W hw => by clear hw; go_simp)⟩) hS ?_
          simp only [Act.put, List.setIfInBounds_toArray, List.set_cons_zero, List.set_cons_succ]
          refine any_take (i := 4) (some 35) (.pointer (some ⟨b, off + j * 8, none⟩)) rfl (by rfl) (by kernel_rfl) (by kernel_rfl) (by kernel_rfl) (fun _ _ _ h => h) (Or.inl ⟨by kernel_rfl, (fun W hw => by clear hw; go_simp)⟩) hS ?_
          simp only [Act.put, List.setIfInBounds_toArray, List.set_cons_zero, List.set_cons_succ]
          refine any_take (i := 5) (some 36) (.agg #[.int .i64 k0, .int .i64 n0, .slice u1 u2 u3]) rfl (by rfl) (by kernel_rfl) (by kernel_rfl) (by kernel_rfl) (fun _ _ _ h => h) (Or.inl ⟨by kernel_rfl, (fun W hw => by obtain ⟨⟨n0_, n1_, n2_⟩, m0_, m1_, m2_⟩ := EX.out W hw; clear hw; go_simp)⟩) hS ?_
          simp only [Act.put, List.setIfInBounds_toArray, List.set_cons_zero, List.set_cons_succ]
          refine any_take (i := 6) (some 37) (.slice (some ⟨b, off, none⟩) L.length c3) rfl (by rfl) (by kernel_rfl) (by kernel_rfl) (by kernel_rfl) (fun _ _ _ h => h) (Or.inl ⟨by kernel_rfl, (fun W hw => by clear hw; go_simp)⟩) hS ?_
          simp only [Act.put, List.setIfInBounds_toArray, List.set_cons_zero, List.set_cons_succ]
          refine any_take (i := 7) (some 38) (.int .i64 (j : Nat)) rfl (by rfl) (by kernel_rfl) (by kernel_rfl) (by kernel_rfl) (fun _ _ _ h => h) (Or.inl ⟨by kernel_rfl, (fun W hw => by clear hw; go_simp)⟩) hS ?_
          simp only [Act.put, List.setIfInBounds_toArray, List.set_cons_zero, List.set_cons_succ]
          refine any_take (i := 8) (some 39) (.pointer (some ⟨b, off + j * 8, none⟩)) rfl (by rfl) (by kernel_rfl) (by kernel_rfl) (by kernel_rfl) (fun _ _ _ h => h) (Or.inl ⟨by kernel_rfl, (fun W hw => by clear hw; go_simp)⟩) hS ?_
          simp only [Act.put, List.setIfInBounds_toArray, List.set_cons_zero, List.set_cons_succ]
          refine any_take (i := 9) (some 40) (.pointer (some ⟨b, off + j * 8 + 3, none⟩)) rfl (by rfl) (by kernel_rfl) (by kernel_rfl) (by kernel_rfl) (fun _ _ _ h => h) (Or.inl ⟨by kernel_rfl, (fun W hw => by clear hw; go_simp)⟩) hS ?_
          simp only [Act.put, List.setIfInBounds_toArray, List.set_cons_zero, List.set_cons_succ]
          refine any_take (i := 10) (some 41) (.agg #[.int .i64 k1, .int .i64 n1, .slice v1 v2 v3]) rfl (by rfl) (by kernel_rfl) (by kernel_rfl) (by kernel_rfl) (fun _ _ _ h => h) (Or.inl ⟨by kernel_rfl, (fun W hw => by obtain ⟨⟨n0_, n1_, n2_⟩, m0_, m1_, m2_⟩ := EX.out W hw; clear hw; go_simp)⟩) hS ?_
          simp only [Act.put, List.setIfInBounds_toArray, List.set_cons_zero, List.set_cons_succ]
          refine wpAnyH_all (rs := [11]) (by kernel_rfl) (by simp) fun q' hq' => ?_
          obtain rfl : q' = 11 := by simpa using hq'
          refine ops_call (d := some 42) rfl (by rfl) (by kernel_rfl) (by go_simp) (HEQH.out.mono ?_)
          rintro e w7 ⟨⟨r7, rfl⟩, hT7, hb7⟩
          have hb7' : Below w4.heap.size w4 w7 := HT.out.2.trans (((Below.refl _ wr).drew.mono HT.out.2.size).trans hb7)
          have hS7 := HSF.out _ hb7'
          have HT7 := Lib.hid (And.intro hT7 hb7')
          clear hT7 hb7 hb7' HEQH
          refine ⟨_, rfl, hS7, ?_⟩
          simp only [Act.put, List.setIfInBounds_toArray, List.set_cons_zero, List.set_cons_succ]
          refine wpAnyH_done (by kernel_rfl) ?_ _
          clear hS hS7 EX HSF
          go_wp2_with fail
          obtain ⟨hT8, hb8⟩ := HT7.out
          have hst := cls_step L j hjl
          rw [HX.out.1] at hst
          refine ⟨⟨j + 1, congrArg (Value.int .i64) (by omega), by omega, ?_, hb8⟩, ?_⟩
          · rw [hst]
            exact hT8
          · show L.length - (intOf (.int .i64 ((j : Int) + 1))).toNat < L.length - (intOf (.int .i64 (j : Nat))).toNat
            simp only [intOf]
            omega
        · have f1 : decide ((j : Int) < (L.length : Int)) = false := decide_eq_false (by omega)
          have hjj : j = L.length := by omega
          obtain ⟨s, hs⟩ : ∃ z, cls L = z := ⟨_, rfl⟩
          have HT0 : Hid (Two w4.heap.size wr c d s ([], []) 20 ∧ Below w4.heap.size w4 wr) := Lib.hid (by
            obtain ⟨h1, h2⟩ := HT.out
            rw [hjj, List.take_length, hs] at h1
            obtain ⟨Oc, Od, g1, g2, g3⟩ := h1
            exact ⟨⟨Oc, Od, g1.more (by omega), g2.more (by omega), g3⟩, h2⟩)
          have hsl : s.1.length ≤ 160 := by have := cls_len L; rw [hs] at this; omega
          have hgn : GN s.1 := by rw [← hs]; exact cls_GN L HW.out
          have HS := Lib.hid (And.intro hgn (And.intro hsl hs))
          clear HT hs hgn f1 hjj hj
          go_wp2_with fail
          go_loopw [8] (fun s8 wr => ∃ (j : Nat) (D : List Eqn), s8 = .int .i64 (j : Nat) ∧ j ≤ ord.length ∧ Had L D (160 * j) ∧ Two w4.heap.size wr c d s (cls D) (20 + j) ∧ Below w4.heap.size w4 wr) (fun s _ => ord.length - (intOf s).toNat)
          case atStart => exact ⟨0, [], rfl, Nat.zero_le _, ⟨fun x hx => (by cases hx), by simp [esz]⟩, HT0.out.1, HT0.out.2⟩
          case round =>
            obtain ⟨j, D, rfl, hj, hD, hT, hb⟩ := hrel
            have HT := Lib.hid (And.intro hT (And.intro hb hD))
            clear hT hb HT0 hD
            have hfin : ∀ (D : List Eqn), Had L D 6400 → Two w4.heap.size wr c d s (cls D) 60 ∧ Below w4.heap.size w4 wr → True := fun _ _ _ => trivial
            clear hfin
            by_cases hgo : j < ord.length ∧ 0 < L.length
            · have f1 : decide ((j : Int) < (ord.length : Int)) = true := decide_eq_true (by omega)
              have f2 : decide ((0 : Int) < (L.length : Int)) = true := decide_eq_true (by omega)
              obtain ⟨ob, oo, rfl, _, hob, ha256⟩ := (HORD.out wr HT.out.2.1).at_ hgo.1
              obtain ⟨a, ha⟩ : ∃ z, ord[j] = z := ⟨_, rfl⟩
              rw [ha] at hob ha256
              obtain ⟨q, hq⟩ : ∃ z, a % L.length = z := ⟨_, rfl⟩
              have hql : q < L.length := by rw [← hq]; exact Nat.mod_lt _ hgo.2
              have hmod : (a : Int).tmod (L.length : Int) = (q : Nat) := by rw [← hq]; rfl
              have hLne : ¬ ((L.length : Int) = 0) := by omega
              obtain ⟨b, off, hA3, _, hat⟩ := (HE.out.below HT.out.2.1).at q hql
              cases hA3
              have hty := (HE.out.below HT.out.2.1).ty q hql
              obtain ⟨x, hx⟩ : ∃ x, L[q] = x := ⟨_, rfl⟩
              have hxm : x ∈ L := by rw [← hx]; exact List.getElem_mem hql
              have hxw := HW.out _ (List.getElem_mem hql)
              have hxr := HRT.out q hql
              rw [hx] at hat hty hxw hxr
              obtain ⟨⟨k0, n0, ⟨u1, u2, u3⟩, F⟩, ⟨k1, n1, ⟨v1, v2, v3⟩, F'⟩, a0, a1⟩ := x
              obtain ⟨x0, x1, x2, x3, x4, x5, x6, x7⟩ := hat
              dsimp only [slv] at x0 x1 x2 x3 x4 x5 x6 x7
              have hD7 : (cls D).1.length ≤ 6400 := by have h1 := cls_len D; have h2 := HT.out.2.2.sz; omega
              have hx160 := Nat.le_trans (sz1_mem hxm) hz1
              have HX := Lib.hid (And.intro hxm (And.intro hxw (And.intro hxr (And.intro hty (And.intro hx160 (And.intro ha hq))))))
              clear hx hxm hxw hxr hty ha hq hx160
              go_upto_region 13 with fail
              refine wp_world (fun Z => Z.heap[wr.heap.size]? = some (Obj.cells #[.int .i64 k0, .int .i64 n0, .slice u1 u2 u3, .int .i64 k1, .int .i64 n1, .slice v1 v2 v3, .int .i64 a0, .int .i64 a1] 40) ∧ Below wr.heap.size wr Z) ⟨heap_alloc_new wr _, (Below.refl _ wr).alloc (Nat.le_refl _) _⟩ ?_
              rintro Z ⟨hz, hbZ⟩
              have hobZ : Z.cell? ⟨ob, oo + j, none⟩ = some (.int .u8 (a : Nat)) := (hbZ.cell (World.block_lt_of_cell? _ _ hob)).trans hob
              have z0 : Z.cell? ⟨wr.heap.size, 0, none⟩ = some _ := cell_of_row Z _ 0 _ _ (0, 0) hz
              have z1 : Z.cell? ⟨wr.heap.size, 1, none⟩ = some _ := cell_of_row Z _ 1 _ _ (0, 0) hz
              have z2 : Z.cell? ⟨wr.heap.size, 2, none⟩ = some _ := cell_of_row Z _ 2 _ _ (0, 0) hz
              have z3 : Z.cell? ⟨wr.heap.size, 3, none⟩ = some _ := cell_of_row Z _ 3 _ _ (0, 0) hz
              have z4 : Z.cell? ⟨wr.heap.size, 4, none⟩ = some _ := cell_of_row Z _ 4 _ _ (0, 0) hz
              have z5 : Z.cell? ⟨wr.heap.size, 5, none⟩ = some _ := cell_of_row Z _ 5 _ _ (0, 0) hz
              obtain ⟨y0, y1, y2, y3, y4, y5⟩ : Z.frozen? ⟨wr.heap.size, 0, none⟩ = false ∧ Z.frozen? ⟨wr.heap.size, 1, none⟩ = false ∧ Z.frozen? ⟨wr.heap.size, 2, none⟩ = false ∧ Z.frozen? ⟨wr.heap.size, 3, none⟩ = false ∧ Z.frozen? ⟨wr.heap.size, 4, none⟩ = false ∧ Z.frozen? ⟨wr.heap.size, 5, none⟩ = false := by simp [World.frozen?, hz]
              have hzl : wr.heap.size < Z.heap.size := (Array.getElem?_eq_some_iff.1 hz).1
              have HEQ : Hid (∀ W, Below wr.heap.size wr W → Calls Try.prog 15 #[.pointer (some ⟨d, 0, none⟩), .agg #[.int .i64 k0, .int .i64 n0, .slice u1 u2 u3], .agg #[.int .i64 k1, .int .i64 n1, .slice v1 v2 v3]] W fun e w' => (∃ r, e = .returned (.int .i64 r)) ∧ Two w4.heap.size w' c d s (cls (D ++ [((k0, n0, (u1, u2, u3), F), (k1, n1, (v1, v2, v3), F'), a0, a1)])) (20 + j + 1) ∧ Below w4.heap.size w4 w') := Lib.hid fun W hW =>
                eq_in HT.out.1 HT.out.2.1 hW ((k0, n0, (u1, u2, u3), F), (k1, n1, (v1, v2, v3), F'), a0, a1) HX.out.2.2.2.1 HX.out.2.1 HX.out.2.2.1 (by have := HX.out.2.2.2.2.1; omega) (by omega)
              have HEQ' : Hid (∀ W, Below wr.heap.size wr W → Calls Try.prog 15 #[.pointer (some ⟨d, 0, none⟩), .agg #[.int .i64 k1, .int .i64 n1, .slice v1 v2 v3], .agg #[.int .i64 k0, .int .i64 n0, .slice u1 u2 u3]] W fun e w' => (∃ r, e = .returned (.int .i64 r)) ∧ Two w4.heap.size w' c d s (cls (D ++ [flipE ((k0, n0, (u1, u2, u3), F), (k1, n1, (v1, v2, v3), F'), a0, a1)])) (20 + j + 1) ∧ Below w4.heap.size w4 w') := Lib.hid fun W hW =>
                eq_in HT.out.1 HT.out.2.1 hW (flipE ((k0, n0, (u1, u2, u3), F), (k1, n1, (v1, v2, v3), F'), a0, a1)) ⟨HX.out.2.2.2.1.2, HX.out.2.2.2.1.1⟩ ⟨HX.out.2.1.2, HX.out.2.1.1⟩ (rtE_flip HX.out.2.2.1) (by rw [sz1_flip]; have := HX.out.2.2.2.2.1; omega) (by omega)
              have HZ := Lib.hid hbZ
              clear hz hbZ hob x0 x1 x2 x3 x4 x5 x6 x7 hmod hLne
              by_cases ha128 : 128 ≤ a
              · have f3 : decide ((128 : Int) ≤ (a : Int)) = true := decide_eq_true (by omega)
                go_wp2_with fail
                refine (HEQ'.out _ ?_).mono ?_
                · exact ((((((HZ.out.setCell (p := ⟨wr.heap.size, 0, none⟩) (Nat.le_refl _) _).setCell (p := ⟨wr.heap.size, 1, none⟩) (Nat.le_refl _) _).setCell (p := ⟨wr.heap.size, 2, none⟩) (Nat.le_refl _) _).setCell (p := ⟨wr.heap.size, 3, none⟩) (Nat.le_refl _) _).setCell (p := ⟨wr.heap.size, 4, none⟩) (Nat.le_refl _) _).setCell (p := ⟨wr.heap.size, 5, none⟩) (Nat.le_refl _) _)
                rintro e w8 ⟨⟨r8, rfl⟩, hT8, hb8⟩
                have HT8 := Lib.hid (And.intro hT8 hb8)
                clear hT8 hb8 HEQ HEQ' z0 z1 z2 z3 z4 z5 y0 y1 y2 y3 y4 y5 hobZ
                go_wp2_with fail
                obtain ⟨hT8, hb8⟩ := HT8.out
                refine ⟨⟨j + 1, _, congrArg (Value.int .i64) (by omega), by omega, HT.out.2.2.snoc HX.out.1 (.inr rfl) (by have := HX.out.2.2.2.2.1; omega), hT8, hb8⟩, ?_⟩
                show ord.length - (intOf (.int .i64 ((j : Int) + 1))).toNat < ord.length - (intOf (.int .i64 (j : Nat))).toNat
                simp only [intOf]
                omega
              · have f3 : decide ((128 : Int) ≤ (a : Int)) = false := decide_eq_false (by omega)
                go_wp2_with fail
                refine (HEQ.out _ ?_).mono ?_
                · exact HZ.out
                rintro e w8 ⟨⟨r8, rfl⟩, hT8, hb8⟩
                have HT8 := Lib.hid (And.intro hT8 hb8)
                clear hT8 hb8 HEQ HEQ' z0 z1 z2 z3 z4 z5 y0 y1 y2 y3 y4 y5 hobZ
                go_wp2_with fail
                obtain ⟨hT8, hb8⟩ := HT8.out
                refine ⟨⟨j + 1, _, congrArg (Value.int .i64) (by omega), by omega, HT.out.2.2.snoc HX.out.1 (.inl rfl) (by have := HX.out.2.2.2.2.1; omega), hT8, hb8⟩, ?_⟩
                show ord.length - (intOf (.int .i64 ((j : Int) + 1))).toNat < ord.length - (intOf (.int .i64 (j : Nat))).toNat
                simp only [intOf]
                omega
            · have HT0 : Hid (Had L D 6400 ∧ Two w4.heap.size wr c d s (cls D) 70 ∧ Below w4.heap.size w4 wr) := Lib.hid (by
                obtain ⟨h1, h2, h3⟩ := HT.out
                obtain ⟨Oc, Od, g1, g2, g3⟩ := h1
                exact ⟨⟨h3.of, by have := h3.sz; omega⟩, ⟨Oc, Od, g1.more (by omega), g2.more (by omega), g3⟩, h2⟩)
              clear HT
              by_cases hj2 : j < ord.length
              · have f1 : decide ((j : Int) < (ord.length : Int)) = true := decide_eq_true (by omega)
                have f2 : decide ((0 : Int) < (L.length : Int)) = false := decide_eq_false (by omega)
                go_wp2_with fail
                have HL0 : Hid (L.length = 0) := Lib.hid (by omega)
                clear f1 f2 hj2 hgo
                go_loopw [10] (fun s10 wr => ∃ (z : Int) (jn : Nat) (D2 : List Eqn), s10 = .int .i64 z ∧ z + 1 = (jn : Nat) ∧ jn ≤ L.length ∧ Had L D2 (6400 + esz (L.drop jn)) ∧ (∀ i (hi : i < L.length), jn ≤ i → flipE L[i] ∈ D2) ∧ Two w4.heap.size wr c d s (cls D2) (70 + (L.length - jn)) ∧ Below w4.heap.size w4 wr) (fun s10 _ => (intOf s10 + 1).toNat)
                case atStart =>
                  refine ⟨_, L.length, D, rfl, by omega, Nat.le_refl _, ⟨HT0.out.1.of, by have := HT0.out.1.sz; omega⟩, fun i hi h => by omega, ?_, HT0.out.2.2⟩
                  rw [Nat.sub_self]
                  exact HT0.out.2.1
                case round =>
                  obtain ⟨z, jn, D2, rfl, hzj, hjn, hD, hfl, hT, hb⟩ := hrel
                  have HT := Lib.hid (And.intro hT (And.intro hb (And.intro hD hfl)))
                  clear hT hb hD hfl HT0
                  by_cases hz0 : 0 ≤ z
                  · exfalso
                    have := HL0.out
                    omega
                  · have f3 : decide ((0 : Int) ≤ z) = false := decide_eq_false (by omega)
                    have hj0 : jn = 0 := by omega
                    subst hj0
                    have hSim : Sim s (cls D2) ∧ Sim (cls D2) s := by
                      have h := order_sim HEK.out HT.out.2.2.1.of (fun y hy => by
                        obtain ⟨i, hi, rfl⟩ := List.mem_iff_getElem.1 hy
                        exact HT.out.2.2.2 i hi (Nat.zero_le _))
                      rw [HS.out.2.2] at h
                      exact h
                    have hDk : ∀ x ∈ D2, Eok x := fun x hx => by
                      obtain ⟨y, hy, rfl | rfl⟩ := HT.out.2.2.1.of x hx
                      · exact HEK.out _ hy
                      · exact (HEK.out _ hy).flip
                    have htl : (cls D2).1.length ≤ 7000 := by
                      have h1 := cls_len D2
                      have h2 := HT.out.2.2.1.sz
                      rw [List.drop_zero] at h2
                      omega
                    have htg : GN (cls D2).1 := (fold_ok D2 ([], []) Gok.nil hDk).1.gn
                    obtain ⟨t, ht⟩ : ∃ z, cls D2 = z := ⟨_, rfl⟩
                    rw [ht] at hSim htl htg
                    have HT0 : Hid (Two w4.heap.size wr c d s t 90 ∧ Below w4.heap.size w4 wr) := Lib.hid (by
                      obtain ⟨h1, h2, _⟩ := HT.out
                      rw [ht] at h1
                      obtain ⟨Oc, Od, g1, g2, g3⟩ := h1
                      exact ⟨⟨Oc, Od, g1.more (by omega), g2.more (by omega), g3⟩, h2⟩)
                    have HSM := Lib.hid (And.intro hSim (And.intro htl htg))
                    have HE1 := Lib.hid (two_err1 HT0.out.1)
                    have HE2 := Lib.hid (two_err HT0.out.1)
                    have HBW := Lib.hid (show Below w.heap.size w wr from HB4.out.trans (HT0.out.2.mono HB4.out.size))
                    clear HT hSim hDk htl htg ht
                    go_wp2_with fail
                    refine HE1.out.mono ?_
                    rintro e w7 ⟨⟨r1, rfl, hr1⟩, rfl⟩
                    clear HE1
                    go_wp2_with fail
                    refine HE2.out.mono ?_
                    rintro e w8 ⟨⟨r2, rfl, hr2⟩, rfl⟩
                    clear HE2
                    by_cases hcl : Clash s.1 s.2
                    · have hct := HSM.out.1.1.clash hcl
                      obtain rfl : r1 = 7 := by rcases hr1 with h | h; exact h.1; exact absurd hcl h.2
                      obtain rfl : r2 = 7 := by rcases hr2 with h | h; exact h.1; exact absurd hct h.2
                      obtain ⟨Oc, Od, hc, hd, _⟩ := HT0.out.1
                      obtain ⟨sc, hxc⟩ := hc.cx hcl
                      obtain ⟨sd, hxd⟩ := hd.cx hct
                      have HC := Lib.hid (And.intro hxc hxd)
                      clear hc hd hxc hxd hr1 hr2 hcl hct
                      go_wp2_with fail
                      refine (vars_cx HC.out.1).mono ?_
                      rintro e w9 ⟨rfl, hb9⟩
                      have HB9 := Lib.hid hb9
                      clear hb9
                      go_wp2_with fail
                      refine (vars_cx (HC.out.2.below HB9.out)).mono ?_
                      rintro e w10 ⟨rfl, hb10⟩
                      have HB10 := Lib.hid (HB9.out.trans (hb10.mono HB9.out.size))
                      clear hb10
                      go_wp2_with fail
                      refine (rints_any [] [] (.slice none 0 0) (.slice none 0 0) w10 (Rd.of_own (base := 0) (e := 3) (World.ownsRow_nil _ _ _ _)) (Rd.of_own (base := 0) (e := 3) (World.ownsRow_nil _ _ _ _)) (by simp) (by simp)).mono ?_
                      rintro e w11 ⟨rfl, hb11⟩
                      have HB11 := Lib.hid (HB10.out.trans (hb11.mono HB10.out.size))
                      clear hb11
                      rw [show (([] : List Int) == []) = true from rfl]
                      go_wp2_with fail
                      refine (vars_cx (HC.out.1.below HB11.out)).mono ?_
                      rintro e w12 ⟨rfl, hb12⟩
                      have HB12 := Lib.hid (HB11.out.trans (hb12.mono HB11.out.size))
                      clear hb12
                      go_wp2_with fail
                      go_loopw [12] (fun s12 wz => s12 = .int .i64 0 ∧ wz = w12) (fun _ _ => 0)
                      case atStart => exact ⟨rfl, rfl⟩
                      case round =>
                        obtain ⟨rfl, rfl⟩ := hrel
                        go_wp2_with fail
                        refine (HAW.out _).mono ?_
                        rintro e w13 ⟨rfl, hb13⟩
                        have HB13 := Lib.hid (hb13)
                        clear hb13
                        go_wp2_with fail
                        have h12 := HBW.out.trans (HB12.out.mono HBW.out.size)
                        exact bodyPost_ret (results_tmp rfl _ _ _) rfl ⟨rfl, h12.trans (HB13.out.mono h12.size)⟩
                    · have hct : ¬ Clash t.1 t.2 := fun h => hcl (HSM.out.1.2.clash h)
                      obtain rfl : r1 = 0 := by rcases hr1 with h | h; exact absurd h.2 hcl; exact h.1
                      obtain rfl : r2 = 0 := by rcases hr2 with h | h; exact absurd h.2 hct; exact h.1
                      obtain ⟨Oc, Od, hc, hd, hOc, hOd, hdis⟩ := HT0.out.1
                      have hqc := hc.cq hcl
                      have hqd := hd.cq hct
                      have HVC := Lib.hid (vars_cq hqc (by omega) HS.out.1)
                      have HQ := Lib.hid (And.intro hqc (And.intro hqd (And.intro hOc (And.intro hOd (And.intro hdis (And.intro hcl hct))))))
                      have hvs : vsort s.1 = vsort t.1 := sim_vars HS.out.1 HSM.out.2.2 HSM.out.1.1.var HSM.out.1.2.var
                      have hvl := vsort_len s.1
                      have hwf0 : ∀ i a, (vsort s.1)[i]? = some a → (Lit.int .i64 a).wf = true := fun i a h => HS.out.1.2 a (vsort_mem h)
                      obtain ⟨VS, hVS⟩ : ∃ z, vsort s.1 = z := ⟨_, rfl⟩
                      rw [hVS] at hvs hvl hwf0 HVC
                      have HVS := Lib.hid (And.intro hVS (And.intro hvs hwf0))
                      clear hc hd hqc hqd hOc hOd hdis hcl hct hr1 hr2 hVS hvs hwf0
                      go_wp2_with fail
                      refine HVC.out.mono ?_
                      clear HVC
                      rintro e w8 ⟨v8, rfl, hrow8, hb8⟩
                      obtain ⟨A8, c8, rfl, _, _⟩ := Un.own_form hrow8
                      have HVD := Lib.hid (vars_cq (HQ.out.2.1.below hb8) (by have := HSM.out.2.1; omega) HSM.out.2.2)
                      rw [← HVS.out.2.1] at HVD
                      have H8 := Lib.hid (And.intro hrow8 hb8)
                      clear hrow8 hb8
                      go_wp2_with fail
                      refine HVD.out.mono ?_
                      clear HVD
                      rintro e w9 ⟨v9, rfl, hrow9, hb9⟩
                      obtain ⟨A9, c9, rfl, _, _⟩ := Un.own_form hrow9
                      have HIN := Lib.hid (rints_any VS VS _ _ w9 (Rd.of_own (own_below H8.out.1 hb9)) (Rd.of_own hrow9) (by omega) (by omega))
                      have H9 := Lib.hid (H8.out.2.trans (hb9.mono H8.out.2.size))
                      clear hrow9 hb9 H8
                      rw [show (VS == VS) = true from by simp] at HIN
                      go_wp2_with fail
                      refine HIN.out.mono ?_
                      clear HIN
                      rintro e w10 ⟨rfl, hb10⟩
                      have H10 := Lib.hid (H9.out.trans (hb10.mono H9.out.size))
                      clear hb10
                      have HVC := Lib.hid (vars_cq (HQ.out.1.below H10.out) (by omega) HS.out.1)
                      rw [HVS.out.1] at HVC
                      go_wp2_with fail
                      refine HVC.out.mono ?_
                      clear HVC
                      rintro e w11 ⟨v11, rfl, hrow, hb11⟩
                      obtain ⟨A11, c11, rfl, _, _⟩ := Un.own_form hrow
                      obtain ⟨n, hn⟩ : ∃ z, VS.length = z := ⟨_, rfl⟩
                      rw [hn] at hrow hvl ⊢
                      have hn160 : n ≤ 160 := by omega
                      have hb11' := H10.out.trans (hb11.mono H10.out.size)
                      have hq11 : CQ Oc w11 c s 9000000000 ∧ CQ Od w11 d t 9000000000 := ⟨(HQ.out.1.below hb11').more (by omega), (HQ.out.2.1.below hb11').more (by omega)⟩
                      have HV11 := Lib.hid (And.intro hrow (And.intro hb11' (And.intro hq11 hn)))
                      clear hrow hb11 hb11' hq11 hn
                      go_wp2_with fail
                      go_loopw [12] (fun s12 wz => ∃ i : Nat, s12 = .int .i64 (i : Nat) ∧ i ≤ n ∧ CQ Oc wz c s (9000000000 + 100 * (i : Nat)) ∧ CQ Od wz d t (9000000000 + 100 * (i : Nat)) ∧ Else (fun k => Oc k ∨ Od k) w11 wz) (fun s _ => n - (intOf s).toNat)
                      case atStart => exact ⟨0, rfl, Nat.zero_le _, by simpa using HV11.out.2.2.1.1, by simpa using HV11.out.2.2.1.2, Else.refl _ _⟩
                      case round =>
                        obtain ⟨i, rfl, hi, hqc, hqd, hE⟩ := hrel
                        have HI := Lib.hid (And.intro hqc (And.intro hqd hE))
                        clear hqc hqd hE
                        by_cases hil : i < n
                        · have g1 : decide ((i : Int) < (n : Int)) = true := decide_eq_true (by omega)
                          obtain ⟨a, ha⟩ : ∃ a, VS[i]? = some a := ⟨_, List.getElem?_eq_getElem (by have := HV11.out.2.2.2; omega)⟩
                          have hwa := HVS.out.2.2 i a ha
                          obtain ⟨vb, cc8, e8, _, _⟩ := Un.own_shape HV11.out.1 (by omega)
                          cases e8
                          have hvb : ¬ (Oc vb ∨ Od vb) := by
                            have h1 := (HV11.out.1.lt vb rfl).1
                            have h2 := H10.out.size
                            rintro (h | h)
                            · have := (HQ.out.2.2.1 vb h).2; omega
                            · have := (HQ.out.2.2.2.1 vb h).2; omega
                          obtain ⟨S0, hSof, hSto⟩ : ∃ S0 : World → Prop, (∀ W : World, Else (fun k => Oc k ∨ Od k) w11 W → S0 W) ∧ (∀ W, S0 W → W.cell? ⟨vb, i, none⟩ = some (.int .i64 a)) := ⟨_, fun _ h => h, fun W hE => by
                            have hr := own_else HV11.out.1 hE fun k hk => by cases hk; exact hvb
                            have hzl : i < VS.length := lt_of_get ha
                            have hln := HV11.out.2.2.2
                            rw [hr.cellAt i (by omega)]
                            simp [ints, ha]⟩
                          have hd1 : Else (fun k => Oc k ∨ Od k) w11 wr.drew := Un.Else.drew HI.out.2.2
                          have hS : S0 wr.drew := hSof _ hd1
                          have HEQ := kind_cq (HI.out.1.below (Below.refl _ wr).drew) (by omega) (by omega) a hwa
                          have HEQH := Lib.hid HEQ
                          have EX := Lib.hid hSto
                          have HSF := Lib.hid hSof
                          have HD1 := Lib.hid (And.intro hd1 hwa)
                          clear hSto hSof hd1 HEQ hwa ha hvb
                          go_wp2_with fail
                          refine wp_region_held (S := S0) (by kernel_rfl) ?_
                          change wpAnyH _ _ _ _ _ 29 (List.replicate 29 false).toArray _ wr.drew
                          simp only [List.replicate_succ, List.replicate_zero]
                          refine any_take (i := 0) (some 122) (.pointer (some ⟨c, 0, none⟩)) rfl (by rfl) (by kernel_rfl) (by kernel_rfl) (by kernel_rfl) (fun _ _ _ h => h) (Or.inl ⟨by kernel_rfl, (fun W hw => by clear hw; go_simp)⟩) hS ?_
                          simp only [Act.put, List.setIfInBounds_toArray, List.set_cons_zero, List.set_cons_succ]
                          refine any_take (i := 1) (some 123) (.slice (some ⟨vb, 0, none⟩) n c11) rfl (by rfl) (by kernel_rfl) (by kernel_rfl) (by kernel_rfl) (fun _ _ _ h => h) (Or.inl ⟨by kernel_rfl, (fun W hw => by clear hw; go_simp)⟩) hS ?_
                          simp only [Act.put, List.setIfInBounds_toArray, List.set_cons_zero, List.set_cons_succ]
                          refine any_take (i := 2) (some 124) (.int .i64 (i : Nat)) rfl (by rfl) (by kernel_rfl) (by kernel_rfl) (by kernel_rfl) (fun _ _ _ h => h) (Or.inl ⟨by kernel_rfl, (fun W hw => by clear hw; go_simp)⟩) hS ?_
                          simp only [Act.put, List.setIfInBounds_toArray, List.set_cons_zero, List.set_cons_succ]
                          refine any_take (i := 3) (some 125) (.pointer (some ⟨vb, i, none⟩)) rfl (by rfl) (by kernel_rfl) (by kernel_rfl) (by kernel_rfl) (fun _ _ _ h => h) (Or.inl ⟨by kernel_rfl, (fun W hw => by clear hw; go_simp)⟩) hS ?_
                          simp only [Act.put, List.setIfInBounds_toArray, List.set_cons_zero, List.set_cons_succ]
                          refine any_take (i := 4) (some 126) (.int .i64 a) rfl (by rfl) (by kernel_rfl) (by kernel_rfl) (by kernel_rfl) (fun _ _ _ h => h) (Or.inl ⟨by kernel_rfl, (fun W hw => by have n0_ := EX.out W hw; clear hw; go_simp)⟩) hS ?_
                          simp only [Act.put, List.setIfInBounds_toArray, List.set_cons_zero, List.set_cons_succ]
                          refine any_take (i := 6) (some 128) (.pointer (some ⟨d, 0, none⟩)) rfl (by rfl) (by kernel_rfl) (by kernel_rfl) (by kernel_rfl) (fun _ _ _ h => h) (Or.inl ⟨by kernel_rfl, (fun W hw => by clear hw; go_simp)⟩) hS ?_
                          simp only [Act.put, List.setIfInBounds_toArray, List.set_cons_zero, List.set_cons_succ]
                          refine any_take (i := 7) (some 129) (.slice (some ⟨vb, 0, none⟩) n c11) rfl (by rfl) (by kernel_rfl) (by kernel_rfl) (by kernel_rfl) (fun _ _ _ h => h) (Or.inl ⟨by kernel_rfl, (fun W hw => by clear hw; go_simp)⟩) hS ?_
                          simp only [Act.put, List.setIfInBounds_toArray, List.set_cons_zero, List.set_cons_succ]
                          refine any_take (i := 8) (some 130) (.int .i64 (i : Nat)) rfl (by rfl) (by kernel_rfl) (by kernel_rfl) (by kernel_rfl) (fun _ _ _ h => h) (Or.inl ⟨by kernel_rfl, (fun W hw => by clear hw; go_simp)⟩) hS ?_
                          simp only [Act.put, List.setIfInBounds_toArray, List.set_cons_zero, List.set_cons_succ]
                          refine any_take (i := 9) (some 131) (.pointer (some ⟨vb, i, none⟩)) rfl (by rfl) (by kernel_rfl) (by kernel_rfl) (by kernel_rfl) (fun _ _ _ h => h) (Or.inl ⟨by kernel_rfl, (fun W hw => by clear hw; go_simp)⟩) hS ?_
                          simp only [Act.put, List.setIfInBounds_toArray, List.set_cons_zero, List.set_cons_succ]
                          refine any_take (i := 10) (some 132) (.int .i64 a) rfl (by rfl) (by kernel_rfl) (by kernel_rfl) (by kernel_rfl) (fun _ _ _ h => h) (Or.inl ⟨by kernel_rfl, (fun W hw => by have n0_ := EX.out W hw; clear hw; go_simp)⟩) hS ?_
                          simp only [Act.put, List.setIfInBounds_toArray, List.set_cons_zero, List.set_cons_succ]
                          refine wpAnyH_all (rs := [5]) (by kernel_rfl) (by simp) fun q' hq' => ?_
                          obtain rfl : q' = 5 := by simpa using hq'
                          refine ops_call (d := some 127) rfl (by rfl) (by kernel_rfl) (by go_simp) (HEQH.out.mono ?_)
                          rintro e w12 ⟨r3, rfl, hr3, hqc, hE⟩
                          have hE12 : Else (fun k => Oc k ∨ Od k) w11 w12 := HD1.out.1.trans (hE.mono fun j hj => .inl hj)
                          have hqd12 := (HI.out.2.1.below (Below.refl _ wr).drew).keep hE fun j hd hc => HQ.out.2.2.2.2.1 j hc hd
                          have hS12 := HSF.out w12 hE12
                          have HEQ := kind_cq hqd12 (by omega) (by have := HSM.out.2.1; omega) a HD1.out.2
                          have HEQH2 := Lib.hid HEQ
                          have H12 := Lib.hid (And.intro hqc (And.intro hqd12 (And.intro hE12 hr3)))
                          clear hqc hqd12 hE12 hr3 hE HEQH HEQ
                          refine ⟨_, rfl, hS12, ?_⟩
                          simp only [Act.put, List.setIfInBounds_toArray, List.set_cons_zero, List.set_cons_succ]
                          refine wpAnyH_all (rs := [11]) (by kernel_rfl) (by simp) fun q' hq' => ?_
                          obtain rfl : q' = 11 := by simpa using hq'
                          refine ops_call (d := some 133) rfl (by rfl) (by kernel_rfl) (by go_simp) (HEQH2.out.mono ?_)
                          rintro e w13 ⟨r4, rfl, hr4, hqd, hE⟩
                          obtain rfl : r4 = r3 := by
                            by_cases h0 : r3 = 0
                            · by_cases h1 : r4 = 0
                              · rw [h0, h1]
                              · exact (HSM.out.1.2.kind HQ.out.2.2.2.2.2.1 a _ _ hr4 H12.out.2.2.2 h1).symm
                            · exact HSM.out.1.1.kind HQ.out.2.2.2.2.2.2 a _ _ H12.out.2.2.2 hr4 h0
                          have hE13 : Else (fun k => Oc k ∨ Od k) w11 w13 := H12.out.2.2.1.trans (hE.mono fun j hj => .inr hj)
                          have hqc13 := H12.out.1.keep hE fun j hc hd => HQ.out.2.2.2.2.1 j hc hd
                          have hS13 := HSF.out w13 hE13
                          have HEQ := class_cq hqc13 (by omega) HS.out.1 a HD1.out.2
                          have HEQH3 := Lib.hid HEQ
                          have H13 := Lib.hid (And.intro hqc13 (And.intro hqd hE13))
                          clear hqd hqc13 hE13 hr4 hE HEQH2 HEQ
                          refine ⟨_, rfl, hS13, ?_⟩
                          simp only [Act.put, List.setIfInBounds_toArray, List.set_cons_zero, List.set_cons_succ]
                          refine any_take (i := 12) (some 134) (.bool false) rfl (by rfl) (by kernel_rfl) (by kernel_rfl) (by kernel_rfl) (fun _ _ _ h => h) (Or.inl ⟨by kernel_rfl, (fun W hw => by clear hw; go_simp)⟩) hS13 ?_
                          simp only [Act.put, List.setIfInBounds_toArray, List.set_cons_zero, List.set_cons_succ]
                          refine any_take (i := 13) (some 135) (.bool false) rfl (by rfl) (by kernel_rfl) (by kernel_rfl) (by kernel_rfl) (fun _ _ _ h => h) (Or.inl ⟨by kernel_rfl, (fun W hw => by clear hw; go_simp)⟩) hS13 ?_
                          simp only [Act.put, List.setIfInBounds_toArray, List.set_cons_zero, List.set_cons_succ]
                          refine any_take (i := 14) (some 136) (.pointer (some ⟨c, 0, none⟩)) rfl (by rfl) (by kernel_rfl) (by kernel_rfl) (by kernel_rfl) (fun _ _ _ h => h) (Or.inl ⟨by kernel_rfl, (fun W hw => by clear hw; go_simp)⟩) hS13 ?_
                          simp only [Act.put, List.setIfInBounds_toArray, List.set_cons_zero, List.set_cons_succ]
                          refine any_take (i := 15) (some 137) (.slice (some ⟨vb, 0, none⟩) n c11) rfl (by rfl) (by kernel_rfl) (by kernel_rfl) (by kernel_rfl) (fun _ _ _ h => h) (Or.inl ⟨by kernel_rfl, (fun W hw => by clear hw; go_simp)⟩) hS13 ?_
                          simp only [Act.put, List.setIfInBounds_toArray, List.set_cons_zero, List.set_cons_succ]
                          refine any_take (i := 16) (some 138) (.int .i64 (i : Nat)) rfl (by rfl) (by kernel_rfl) (by kernel_rfl) (by kernel_rfl) (fun _ _ _ h => h) (Or.inl ⟨by kernel_rfl, (fun W hw => by clear hw; go_simp)⟩) hS13 ?_
                          simp only [Act.put, List.setIfInBounds_toArray, List.set_cons_zero, List.set_cons_succ]
                          refine any_take (i := 17) (some 139) (.pointer (some ⟨vb, i, none⟩)) rfl (by rfl) (by kernel_rfl) (by kernel_rfl) (by kernel_rfl) (fun _ _ _ h => h) (Or.inl ⟨by kernel_rfl, (fun W hw => by clear hw; go_simp)⟩) hS13 ?_
                          simp only [Act.put, List.setIfInBounds_toArray, List.set_cons_zero, List.set_cons_succ]
                          refine any_take (i := 18) (some 140) (.int .i64 a) rfl (by rfl) (by kernel_rfl) (by kernel_rfl) (by kernel_rfl) (fun _ _ _ h => h) (Or.inl ⟨by kernel_rfl, (fun W hw => by have n0_ := EX.out W hw; clear hw; go_simp)⟩) hS13 ?_
                          simp only [Act.put, List.setIfInBounds_toArray, List.set_cons_zero, List.set_cons_succ]
                          refine any_take (i := 20) (some 142) (.pointer (some ⟨d, 0, none⟩)) rfl (by rfl) (by kernel_rfl) (by kernel_rfl) (by kernel_rfl) (fun _ _ _ h => h) (Or.inl ⟨by kernel_rfl, (fun W hw => by clear hw; go_simp)⟩) hS13 ?_
                          simp only [Act.put, List.setIfInBounds_toArray, List.set_cons_zero, List.set_cons_succ]
                          refine any_take (i := 21) (some 143) (.slice (some ⟨vb, 0, none⟩) n c11) rfl (by rfl) (by kernel_rfl) (by kernel_rfl) (by kernel_rfl) (fun _ _ _ h => h) (Or.inl ⟨by kernel_rfl, (fun W hw => by clear hw; go_simp)⟩) hS13 ?_
                          simp only [Act.put, List.setIfInBounds_toArray, List.set_cons_zero, List.set_cons_succ]
                          refine any_take (i := 22) (some 144) (.int .i64 (i : Nat)) rfl (by rfl) (by kernel_rfl) (by kernel_rfl) (by kernel_rfl) (fun _ _ _ h => h) (Or.inl ⟨by kernel_rfl, (fun W hw => by clear hw; go_simp)⟩) hS13 ?_
                          simp only [Act.put, List.setIfInBounds_toArray, List.set_cons_zero, List.set_cons_succ]
                          refine any_take (i := 23) (some 145) (.pointer (some ⟨vb, i, none⟩)) rfl (by rfl) (by kernel_rfl) (by kernel_rfl) (by kernel_rfl) (fun _ _ _ h => h) (Or.inl ⟨by kernel_rfl, (fun W hw => by clear hw; go_simp)⟩) hS13 ?_
                          simp only [Act.put, List.setIfInBounds_toArray, List.set_cons_zero, List.set_cons_succ]
                          refine any_take (i := 24) (some 146) (.int .i64 a) rfl (by rfl) (by kernel_rfl) (by kernel_rfl) (by kernel_rfl) (fun _ _ _ h => h) (Or.inl ⟨by kernel_rfl, (fun W hw => by have n0_ := EX.out W hw; clear hw; go_simp)⟩) hS13 ?_
                          simp only [Act.put, List.setIfInBounds_toArray, List.set_cons_zero, List.set_cons_succ]
                          refine wpAnyH_all (rs := [19]) (by kernel_rfl) (by simp) fun q' hq' => ?_
                          obtain rfl : q' = 19 := by simpa using hq'
                          refine ops_call (d := some 141) rfl (by rfl) (by kernel_rfl) (by go_simp) (HEQH3.out.mono ?_)
                          rintro e w14 ⟨vc, ys, rfl, hrd, hcl, hyl, hb14⟩
                          obtain ⟨Ac, cc, rfl⟩ := hrd.form
                          have hE14 : Else (fun k => Oc k ∨ Od k) w11 w14 := H13.out.2.2.trans (Else.of_below hb14)
                          have hS14 := HSF.out w14 hE14
                          have HEQ := class_cq (H13.out.2.1.below hb14) (by have := HSM.out.2.1; omega) HSM.out.2.2 a HD1.out.2
                          have HEQH4 := Lib.hid HEQ
                          have H14 := Lib.hid (And.intro hrd (And.intro hcl (And.intro hyl (And.intro hb14 hE14))))
                          clear hrd hcl hyl hb14 hE14 HEQH3 HEQ
                          refine ⟨_, rfl, hS14, ?_⟩
                          simp only [Act.put, List.setIfInBounds_toArray, List.set_cons_zero, List.set_cons_succ]
                          refine wpAnyH_all (rs := [25]) (by kernel_rfl) (by simp) fun q' hq' => ?_
                          obtain rfl : q' = 25 := by simpa using hq'
                          refine ops_call (d := some 147) rfl (by rfl) (by kernel_rfl) (by go_simp) (HEQH4.out.mono ?_)
                          rintro e w15 ⟨vd, zs, rfl, hrd, hcl, hyl, hb15⟩
                          obtain rfl : zs = ys := (hcl.uniq H14.out.2.1 fun b => ⟨HSM.out.1.2.same a b, HSM.out.1.1.same a b⟩)
                          obtain ⟨Ad, cd, rfl⟩ := hrd.form
                          have hE15 : Else (fun k => Oc k ∨ Od k) w11 w15 := H14.out.2.2.2.2.trans (Else.of_below hb15)
                          have hS15 := HSF.out w15 hE15
                          have HEQ := rints_any zs zs _ _ w15 (H14.out.1.below hb15) hrd (by have := H14.out.2.2.1; omega) (by have := H14.out.2.2.1; omega)
                          rw [show (zs == zs) = true from by simp] at HEQ
                          have HEQH5 := Lib.hid HEQ
                          have H15 := Lib.hid (And.intro hb15 hE15)
                          clear hrd hcl hyl hb15 hE15 HEQH4 HEQ
                          refine ⟨_, rfl, hS15, ?_⟩
                          simp only [Act.put, List.setIfInBounds_toArray, List.set_cons_zero, List.set_cons_succ]
                          refine wpAnyH_all (rs := [26]) (by kernel_rfl) (by simp) fun q' hq' => ?_
                          obtain rfl : q' = 26 := by simpa using hq'
                          refine ops_call (d := some 148) rfl (by rfl) (by kernel_rfl) (by go_simp) (HEQH5.out.mono ?_)
                          rintro e w16 ⟨rfl, hb16⟩
                          have hE16 : Else (fun k => Oc k ∨ Od k) w11 w16 := H15.out.2.trans (Else.of_below hb16)
                          have hS16 := HSF.out w16 hE16
                          have H16 := Lib.hid (And.intro ((H14.out.2.2.2.1.trans (H15.out.1.mono H14.out.2.2.2.1.size)).trans (hb16.mono (Nat.le_trans H14.out.2.2.2.1.size H15.out.1.size))) hE16)
                          clear hb16 hE16 HEQH5
                          refine ⟨_, rfl, hS16, ?_⟩
                          simp only [Act.put, List.setIfInBounds_toArray, List.set_cons_zero, List.set_cons_succ]
                          refine any_take (i := 27) (some 149) (.bool false) rfl (by rfl) (by kernel_rfl) (by kernel_rfl) (by kernel_rfl) (fun _ _ _ h => h) (Or.inl ⟨by kernel_rfl, (fun W hw => by clear hw; go_simp)⟩) hS16 ?_
                          simp only [Act.put, List.setIfInBounds_toArray, List.set_cons_zero, List.set_cons_succ]
                          refine any_take (i := 28) (some 150) (.bool false) rfl (by rfl) (by kernel_rfl) (by kernel_rfl) (by kernel_rfl) (fun _ _ _ h => h) (Or.inl ⟨by kernel_rfl, (fun W hw => by clear hw; go_simp)⟩) hS16 ?_
                          simp only [Act.put, List.setIfInBounds_toArray, List.set_cons_zero, List.set_cons_succ]
                          refine wpAnyH_done (by kernel_rfl) ?_ _
                          clear hS hS12 hS13 hS14 hS15 hS16 EX HSF
                          go_wp2_with fail
                          refine ⟨⟨i + 1, congrArg (Value.int .i64) (by omega), by omega, (H13.out.1.below H16.out.1).more (by push_cast; omega), (H13.out.2.1.below H16.out.1).more (by push_cast; omega), H16.out.2⟩, ?_⟩
                          show n - (intOf (.int .i64 ((i : Int) + 1))).toNat < n - (intOf (.int .i64 (i : Nat))).toNat
                          simp only [intOf]
                          omega
                        · have g1 : decide ((i : Int) < (n : Int)) = false := decide_eq_false (by omega)
                          have HB9 := Lib.hid (show Below w.heap.size w wr from (HBW.out.trans (HV11.out.2.1.mono HBW.out.size)).trans (HI.out.2.2.below (fun j hj => by
                            have h4 := HB4.out.size
                            rcases hj with hj | hj
                            · have := (HQ.out.2.2.1 j hj).1; omega
                            · have := (HQ.out.2.2.2.1 j hj).1; omega) (Nat.le_trans HBW.out.size HV11.out.2.1.size)))
                          go_wp2_with fail
                          refine (HAW.out _).mono ?_
                          rintro e w12 ⟨rfl, hb12⟩
                          have HB12 := Lib.hid (HB9.out.trans (hb12.mono HB9.out.size))
                          clear hb12
                          go_wp2_with fail
                          exact bodyPost_ret (results_tmp rfl _ _ _) rfl ⟨rfl, HB12.out⟩
              · have f1 : decide ((j : Int) < (ord.length : Int)) = false := decide_eq_false (by omega)
                go_wp2_with fail
                clear f1 hj2
                go_loopw [10] (fun s10 wr => ∃ (z : Int) (jn : Nat) (D2 : List Eqn), s10 = .int .i64 z ∧ z + 1 = (jn : Nat) ∧ jn ≤ L.length ∧ Had L D2 (6400 + esz (L.drop jn)) ∧ (∀ i (hi : i < L.length), jn ≤ i → flipE L[i] ∈ D2) ∧ Two w4.heap.size wr c d s (cls D2) (70 + (L.length - jn)) ∧ Below w4.heap.size w4 wr) (fun s10 _ => (intOf s10 + 1).toNat)
                case atStart =>
                  refine ⟨_, L.length, D, rfl, by omega, Nat.le_refl _, ⟨HT0.out.1.of, by have := HT0.out.1.sz; omega⟩, fun i hi h => by omega, ?_, HT0.out.2.2⟩
                  rw [Nat.sub_self]
                  exact HT0.out.2.1
                case round =>
                  obtain ⟨z, jn, D2, rfl, hzj, hjn, hD, hfl, hT, hb⟩ := hrel
                  have HT := Lib.hid (And.intro hT (And.intro hb (And.intro hD hfl)))
                  clear hT hb hD hfl HT0
                  by_cases hz0 : 0 ≤ z
                  · obtain ⟨j, rfl⟩ := Int.eq_ofNat_of_zero_le hz0
                    have hjn1 : jn = j + 1 := by omega
                    subst hjn1
                    have hjl : j < L.length := by omega
                    have f3 : decide ((0 : Int) ≤ (j : Int)) = true := decide_eq_true (by omega)
                    obtain ⟨b, off, rfl, hat, hty⟩ : ∃ b off, A3 = some ⟨b, off, none⟩ ∧ (∀ W, Below w4.heap.size w4 W → EqAt W b (off + j * 8) L[j]) ∧ (∀ W, Below w4.heap.size w4 W → EqT w4.heap.size W L[j]) := by
                      obtain ⟨b, off, hA, _, _⟩ := HE.out.at j hjl
                      refine ⟨b, off, hA, fun W hb => ?_, fun W hb => (HE.out.below hb).ty j hjl⟩
                      obtain ⟨b', off', hA', _, hat⟩ := (HE.out.below hb).at j hjl
                      rw [hA] at hA'
                      cases hA'
                      exact hat
                    obtain ⟨x, hx⟩ : ∃ x, L[j] = x := ⟨_, rfl⟩
                    have hxw := HW.out _ (List.getElem_mem hjl)
                    have hxr := HRT.out j hjl
                    have hxs := sz_of hjl
                    rw [hx] at hat hty hxw hxr hxs
                    obtain ⟨S0, hSof, hSto⟩ : ∃ S0 : World → Prop, (∀ W : World, Below w4.heap.size w4 W → S0 W) ∧ (∀ W, S0 W → Below w4.heap.size w4 W) := ⟨_, fun _ h => h, fun _ h => h⟩
                    obtain ⟨⟨k0, n0, ⟨u1, u2, u3⟩, F⟩, ⟨k1, n1, ⟨v1, v2, v3⟩, F'⟩, a0, a1⟩ := x
                    have EX : Hid (∀ W, S0 W → (W.cell? ⟨b, off + j * 8, none⟩ = some (.int .i64 k0) ∧ W.cell? ⟨b, off + j * 8 + 1, none⟩ = some (.int .i64 n0) ∧ W.cell? ⟨b, off + j * 8 + 2, none⟩ = some (.slice u1 u2 u3)) ∧ W.cell? ⟨b, off + j * 8 + 3, none⟩ = some (.int .i64 k1) ∧ W.cell? ⟨b, off + j * 8 + 3 + 1, none⟩ = some (.int .i64 n1) ∧ W.cell? ⟨b, off + j * 8 + 3 + 2, none⟩ = some (.slice v1 v2 v3)) := Lib.hid fun W h => by
                      obtain ⟨q0, q1, q2, q3, q4, q5, _, _⟩ := hat W (hSto W h)
                      exact ⟨⟨q0, q1, q2⟩, q3, q4, q5⟩
                    have HTY := Lib.hid hty
                    have HX := Lib.hid (And.intro hx (And.intro hxw (And.intro hxr hxs)))
                    have HSF := Lib.hid hSof
                    clear hat hty hx hxw hxr hxs hSto hSof
                    go_wp2_with fail
                    have hd1 : Below w4.heap.size w4 wr.drew := HT.out.2.1.trans ((Below.refl _ wr).drew.mono HT.out.2.1.size)
                    have hS : S0 wr.drew := HSF.out _ hd1
                    have hed : esz (L.drop (j + 1)) ≤ 160 := by
                      have h : esz L = esz (L.take (j + 1)) + esz (L.drop (j + 1)) := by
                        unfold esz
                        rw [← List.sum_append, ← List.map_append, List.take_append_drop]
                      omega
                    have hx2 := HX.out.2.2.2
                    have hsD := HT.out.2.2.1.sz
                    have HEQ := eq_in HT.out.1 HT.out.2.1 (Below.refl _ wr).drew (flipE ((k0, n0, (u1, u2, u3), F), (k1, n1, (v1, v2, v3), F'), a0, a1)) ⟨(HTY.out _ HT.out.2.1).2, (HTY.out _ HT.out.2.1).1⟩ ⟨HX.out.2.1.2, HX.out.2.1.1⟩ (rtE_flip HX.out.2.2.1) (by rw [sz1_flip]; have := cls_len D2; omega) (by omega)
                    have HEQH : Hid (Calls Try.prog 15 #[.pointer (some ⟨d, 0, none⟩), .agg #[.int .i64 k1, .int .i64 n1, .slice v1 v2 v3], .agg #[.int .i64 k0, .int .i64 n0, .slice u1 u2 u3]] wr.drew _) := Lib.hid HEQ
                    clear HEQ hd1 hx2 hsD
                    refine wp_region_held (S := S0) (by kernel_rfl) ?_
                    change wpAnyH _ _ _ _ _ 12 (List.replicate 12 false).toArray _ wr.drew
                    simp only [List.replicate_succ, List.replicate_zero]
                    refine any_take (i := 0) (some 89) (.pointer (some ⟨d, 0, none⟩)) rfl (by rfl) (by kernel_rfl) (by kernel_rfl) (by kernel_rfl) (fun _ _ _ h => h) (Or.inl ⟨by kernel_rfl, (fun W hw => by clear hw; go_simp)⟩) hS ?_
                    simp only [Act.put, List.setIfInBounds_toArray, List.set_cons_zero, List.set_cons_succ]
                    refine any_take (i := 1) (some 90) (.slice (some ⟨b, off, none⟩) L.length c3) rfl (by rfl) (by kernel_rfl) (by kernel_rfl) (by kernel_rfl) (fun _ _ _ h => h) (Or.inl ⟨by kernel_rfl, (fun W hw => by clear hw; go_simp)⟩) hS ?_
                    simp only [Act.put, List.setIfInBounds_toArray, List.set_cons_zero, List.set_cons_succ]
                    refine any_take (i := 2) (some 91) (.int .i64 (j : Nat)) rfl (by rfl) (by kernel_rfl) (by kernel_rfl) (by kernel_rfl) (fun _ _ _ h => h) (Or.inl ⟨by kernel_rfl, (fun W hw => by clear hw; go_simp)⟩) hS ?_
                    simp only [Act.put, List.setIfInBounds_toArray, List.set_cons_zero, List.set_cons_succ]
                    refine any_take (i := 3) (some 92) (.pointer (some ⟨b, off + j * 8, none⟩)) rfl (by rfl) (by kernel_rfl) (by kernel_rfl) (by kernel_rfl) (fun _ _ _ h => h) (Or.inl ⟨by kernel_rfl, (fun W hw => by clear hw; go_simp)⟩) hS ?_
                    simp only [Act.put, List.setIfInBounds_toArray, List.set_cons_zero, List.set_cons_succ]
                    refine any_take (i := 4) (some 93) (.pointer (some ⟨b, off + j * 8 + 3, none⟩)) rfl (by rfl) (by kernel_rfl) (by kernel_rfl) (by kernel_rfl) (fun _ _ _ h => h) (Or.inl ⟨by kernel_rfl, (fun W hw => by clear hw; go_simp)⟩) hS ?_
                    simp only [Act.put, List.setIfInBounds_toArray, List.set_cons_zero, List.set_cons_succ]
                    refine any_take (i := 5) (some 94) (.agg #[.int .i64 k1, .int .i64 n1, .slice v1 v2 v3]) rfl (by rfl) (by kernel_rfl) (by kernel_rfl) (by kernel_rfl) (fun _ _ _ h => h) (Or.inl ⟨by kernel_rfl, (fun W hw => by obtain ⟨⟨n0_, n1_, n2_⟩, m0_, m1_, m2_⟩ := EX.out W hw; clear hw; go_simp)⟩) hS ?_
                    simp only [Act.put, List.setIfInBounds_toArray, List.set_cons_zero, List.set_cons_succ]
                    refine any_take (i := 6) (some 95) (.slice (some ⟨b, off, none⟩) L.length c3) rfl (by rfl) (by kernel_rfl) (by kernel_rfl) (by kernel_rfl) (fun _ _ _ h => h) (Or.inl ⟨by kernel_rfl, (fun W hw => by clear hw; go_simp)⟩) hS ?_
                    simp only [Act.put, List.setIfInBounds_toArray, List.set_cons_zero, List.set_cons_succ]
                    refine any_take (i := 7) (some 96) (.int .i64 (j : Nat)) rfl (by rfl) (by kernel_rfl) (by kernel_rfl) (by kernel_rfl) (fun _ _ _ h => h) (Or.inl ⟨by kernel_rfl, (fun W hw => by clear hw; go_simp)⟩) hS ?_
                    simp only [Act.put, List.setIfInBounds_toArray, List.set_cons_zero, List.set_cons_succ]
                    refine any_take (i := 8) (some 97) (.pointer (some ⟨b, off + j * 8, none⟩)) rfl (by rfl) (by kernel_rfl) (by kernel_rfl) (by kernel_rfl) (fun _ _ _ h => h) (Or.inl ⟨by kernel_rfl, (fun W hw => by clear hw; go_simp)⟩) hS ?_
                    simp only [Act.put, List.setIfInBounds_toArray, List.set_cons_zero, List.set_cons_succ]
                    refine any_take (i := 9) (some 98) (.pointer (some ⟨b, off + j * 8, none⟩)) rfl (by rfl) (by kernel_rfl) (by kernel_rfl) (by kernel_rfl) (fun _ _ _ h => h) (Or.inl ⟨by kernel_rfl, (fun W hw => by clear hw; go_simp)⟩) hS ?_
                    simp only [Act.put, List.setIfInBounds_toArray, List.set_cons_zero, List.set_cons_succ]
                    refine any_take (i := 10) (some 99) (.agg #[.int .i64 k0, .int .i64 n0, .slice u1 u2 u3]) rfl (by rfl) (by kernel_rfl) (by kernel_rfl) (by kernel_rfl) (fun _ _ _ h => h) (Or.inl ⟨by kernel_rfl, (fun W hw => by obtain ⟨⟨n0_, n1_, n2_⟩, m0_, m1_, m2_⟩ := EX.out W hw; clear hw; go_simp)⟩) hS ?_
                    simp only [Act.put, List.setIfInBounds_toArray, List.set_cons_zero, List.set_cons_succ]
                    refine wpAnyH_all (rs := [11]) (by kernel_rfl) (by simp) fun q' hq' => ?_
                    obtain rfl : q' = 11 := by simpa using hq'
                    refine ops_call (d := some 100) rfl (by rfl) (by kernel_rfl) (by go_simp) (HEQH.out.mono ?_)
                    rintro e w8 ⟨⟨r8, rfl⟩, hT8, hb8⟩
                    have hS8 := HSF.out _ hb8
                    have HT8 := Lib.hid (And.intro hT8 hb8)
                    clear hT8 hb8 HEQH
                    refine ⟨_, rfl, hS8, ?_⟩
                    simp only [Act.put, List.setIfInBounds_toArray, List.set_cons_zero, List.set_cons_succ]
                    refine wpAnyH_done (by kernel_rfl) ?_ _
                    clear hS hS8 EX HSF
                    go_wp2_with fail
                    obtain ⟨hT8, hb8⟩ := HT8.out
                    have hxm : L[j] ∈ L := List.getElem_mem hjl
                    have hdr : esz (L.drop j) = sz1 L[j] + esz (L.drop (j + 1)) := by
                      unfold esz
                      rw [List.drop_eq_getElem_cons hjl, List.map_cons, List.sum_cons]
                    refine ⟨⟨_, j, _, rfl, by omega, by omega, HT.out.2.2.1.snoc hxm (.inr (by rw [HX.out.1])) (by omega), fun i hi h => ?_, ?_, hb8⟩, ?_⟩
                    · by_cases hij : i = j
                      · subst hij
                        rw [HX.out.1]
                        exact List.mem_append_right _ (List.mem_singleton.2 rfl)
                      · exact List.mem_append_left _ (HT.out.2.2.2 i hi (by omega))
                    · rw [show 70 + (L.length - j) = 70 + (L.length - (j + 1)) + 1 by omega]
                      exact hT8
                    · show (intOf (.int .i64 ((j : Int) - 1)) + 1).toNat < (intOf (.int .i64 (j : Nat)) + 1).toNat
                      simp only [intOf]
                      omega
                  · have f3 : decide ((0 : Int) ≤ z) = false := decide_eq_false (by omega)
                    have hj0 : jn = 0 := by omega
                    subst hj0
                    have hSim : Sim s (cls D2) ∧ Sim (cls D2) s := by
                      have h := order_sim HEK.out HT.out.2.2.1.of (fun y hy => by
                        obtain ⟨i, hi, rfl⟩ := List.mem_iff_getElem.1 hy
                        exact HT.out.2.2.2 i hi (Nat.zero_le _))
                      rw [HS.out.2.2] at h
                      exact h
                    have hDk : ∀ x ∈ D2, Eok x := fun x hx => by
                      obtain ⟨y, hy, rfl | rfl⟩ := HT.out.2.2.1.of x hx
                      · exact HEK.out _ hy
                      · exact (HEK.out _ hy).flip
                    have htl : (cls D2).1.length ≤ 7000 := by
                      have h1 := cls_len D2
                      have h2 := HT.out.2.2.1.sz
                      rw [List.drop_zero] at h2
                      omega
                    have htg : GN (cls D2).1 := (fold_ok D2 ([], []) Gok.nil hDk).1.gn
                    obtain ⟨t, ht⟩ : ∃ z, cls D2 = z := ⟨_, rfl⟩
                    rw [ht] at hSim htl htg
                    have HT0 : Hid (Two w4.heap.size wr c d s t 90 ∧ Below w4.heap.size w4 wr) := Lib.hid (by
                      obtain ⟨h1, h2, _⟩ := HT.out
                      rw [ht] at h1
                      obtain ⟨Oc, Od, g1, g2, g3⟩ := h1
                      exact ⟨⟨Oc, Od, g1.more (by omega), g2.more (by omega), g3⟩, h2⟩)
                    have HSM := Lib.hid (And.intro hSim (And.intro htl htg))
                    have HE1 := Lib.hid (two_err1 HT0.out.1)
                    have HE2 := Lib.hid (two_err HT0.out.1)
                    have HBW := Lib.hid (show Below w.heap.size w wr from HB4.out.trans (HT0.out.2.mono HB4.out.size))
                    clear HT hSim hDk htl htg ht
                    go_wp2_with fail
                    refine HE1.out.mono ?_
                    rintro e w7 ⟨⟨r1, rfl, hr1⟩, rfl⟩
                    clear HE1
                    go_wp2_with fail
                    refine HE2.out.mono ?_
                    rintro e w8 ⟨⟨r2, rfl, hr2⟩, rfl⟩
                    clear HE2
                    by_cases hcl : Clash s.1 s.2
                    · have hct := HSM.out.1.1.clash hcl
                      obtain rfl : r1 = 7 := by rcases hr1 with h | h; exact h.1; exact absurd hcl h.2
                      obtain rfl : r2 = 7 := by rcases hr2 with h | h; exact h.1; exact absurd hct h.2
                      obtain ⟨Oc, Od, hc, hd, _⟩ := HT0.out.1
                      obtain ⟨sc, hxc⟩ := hc.cx hcl
                      obtain ⟨sd, hxd⟩ := hd.cx hct
                      have HC := Lib.hid (And.intro hxc hxd)
                      clear hc hd hxc hxd hr1 hr2 hcl hct
                      go_wp2_with fail
                      refine (vars_cx HC.out.1).mono ?_
                      rintro e w9 ⟨rfl, hb9⟩
                      have HB9 := Lib.hid hb9
                      clear hb9
                      go_wp2_with fail
                      refine (vars_cx (HC.out.2.below HB9.out)).mono ?_
                      rintro e w10 ⟨rfl, hb10⟩
                      have HB10 := Lib.hid (HB9.out.trans (hb10.mono HB9.out.size))
                      clear hb10
                      go_wp2_with fail
                      refine (rints_any [] [] (.slice none 0 0) (.slice none 0 0) w10 (Rd.of_own (base := 0) (e := 3) (World.ownsRow_nil _ _ _ _)) (Rd.of_own (base := 0) (e := 3) (World.ownsRow_nil _ _ _ _)) (by simp) (by simp)).mono ?_
                      rintro e w11 ⟨rfl, hb11⟩
                      have HB11 := Lib.hid (HB10.out.trans (hb11.mono HB10.out.size))
                      clear hb11
                      rw [show (([] : List Int) == []) = true from rfl]
                      go_wp2_with fail
                      refine (vars_cx (HC.out.1.below HB11.out)).mono ?_
                      rintro e w12 ⟨rfl, hb12⟩
                      have HB12 := Lib.hid (HB11.out.trans (hb12.mono HB11.out.size))
                      clear hb12
                      go_wp2_with fail
                      go_loopw [12] (fun s12 wz => s12 = .int .i64 0 ∧ wz = w12) (fun _ _ => 0)
                      case atStart => exact ⟨rfl, rfl⟩
                      case round =>
                        obtain ⟨rfl, rfl⟩ := hrel
                        go_wp2_with fail
                        refine (HAW.out _).mono ?_
                        rintro e w13 ⟨rfl, hb13⟩
                        have HB13 := Lib.hid (hb13)
                        clear hb13
                        go_wp2_with fail
                        have h12 := HBW.out.trans (HB12.out.mono HBW.out.size)
                        exact bodyPost_ret (results_tmp rfl _ _ _) rfl ⟨rfl, h12.trans (HB13.out.mono h12.size)⟩
                    · have hct : ¬ Clash t.1 t.2 := fun h => hcl (HSM.out.1.2.clash h)
                      obtain rfl : r1 = 0 := by rcases hr1 with h | h; exact absurd h.2 hcl; exact h.1
                      obtain rfl : r2 = 0 := by rcases hr2 with h | h; exact absurd h.2 hct; exact h.1
                      obtain ⟨Oc, Od, hc, hd, hOc, hOd, hdis⟩ := HT0.out.1
                      have hqc := hc.cq hcl
                      have hqd := hd.cq hct
                      have HVC := Lib.hid (vars_cq hqc (by omega) HS.out.1)
                      have HQ := Lib.hid (And.intro hqc (And.intro hqd (And.intro hOc (And.intro hOd (And.intro hdis (And.intro hcl hct))))))
                      have hvs : vsort s.1 = vsort t.1 := sim_vars HS.out.1 HSM.out.2.2 HSM.out.1.1.var HSM.out.1.2.var
                      have hvl := vsort_len s.1
                      have hwf0 : ∀ i a, (vsort s.1)[i]? = some a → (Lit.int .i64 a).wf = true := fun i a h => HS.out.1.2 a (vsort_mem h)
                      obtain ⟨VS, hVS⟩ : ∃ z, vsort s.1 = z := ⟨_, rfl⟩
                      rw [hVS] at hvs hvl hwf0 HVC
                      have HVS := Lib.hid (And.intro hVS (And.intro hvs hwf0))
                      clear hc hd hqc hqd hOc hOd hdis hcl hct hr1 hr2 hVS hvs hwf0
                      go_wp2_with fail
                      refine HVC.out.mono ?_
                      clear HVC
                      rintro e w8 ⟨v8, rfl, hrow8, hb8⟩
                      obtain ⟨A8, c8, rfl, _, _⟩ := Un.own_form hrow8
                      have HVD := Lib.hid (vars_cq (HQ.out.2.1.below hb8) (by have := HSM.out.2.1; omega) HSM.out.2.2)
                      rw [← HVS.out.2.1] at HVD
                      have H8 := Lib.hid (And.intro hrow8 hb8)
                      clear hrow8 hb8
                      go_wp2_with fail
                      refine HVD.out.mono ?_
                      clear HVD
                      rintro e w9 ⟨v9, rfl, hrow9, hb9⟩
                      obtain ⟨A9, c9, rfl, _, _⟩ := Un.own_form hrow9
                      have HIN := Lib.hid (rints_any VS VS _ _ w9 (Rd.of_own (own_below H8.out.1 hb9)) (Rd.of_own hrow9) (by omega) (by omega))
                      have H9 := Lib.hid (H8.out.2.trans (hb9.mono H8.out.2.size))
                      clear hrow9 hb9 H8
                      rw [show (VS == VS) = true from by simp] at HIN
                      go_wp2_with fail
                      refine HIN.out.mono ?_
                      clear HIN
                      rintro e w10 ⟨rfl, hb10⟩
                      have H10 := Lib.hid (H9.out.trans (hb10.mono H9.out.size))
                      clear hb10
                      have HVC := Lib.hid (vars_cq (HQ.out.1.below H10.out) (by omega) HS.out.1)
                      rw [HVS.out.1] at HVC
                      go_wp2_with fail
                      refine HVC.out.mono ?_
                      clear HVC
                      rintro e w11 ⟨v11, rfl, hrow, hb11⟩
                      obtain ⟨A11, c11, rfl, _, _⟩ := Un.own_form hrow
                      obtain ⟨n, hn⟩ : ∃ z, VS.length = z := ⟨_, rfl⟩
                      rw [hn] at hrow hvl ⊢
                      have hn160 : n ≤ 160 := by omega
                      have hb11' := H10.out.trans (hb11.mono H10.out.size)
                      have hq11 : CQ Oc w11 c s 9000000000 ∧ CQ Od w11 d t 9000000000 := ⟨(HQ.out.1.below hb11').more (by omega), (HQ.out.2.1.below hb11').more (by omega)⟩
                      have HV11 := Lib.hid (And.intro hrow (And.intro hb11' (And.intro hq11 hn)))
                      clear hrow hb11 hb11' hq11 hn
                      go_wp2_with fail
                      go_loopw [12] (fun s12 wz => ∃ i : Nat, s12 = .int .i64 (i : Nat) ∧ i ≤ n ∧ CQ Oc wz c s (9000000000 + 100 * (i : Nat)) ∧ CQ Od wz d t (9000000000 + 100 * (i : Nat)) ∧ Else (fun k => Oc k ∨ Od k) w11 wz) (fun s _ => n - (intOf s).toNat)
                      case atStart => exact ⟨0, rfl, Nat.zero_le _, by simpa using HV11.out.2.2.1.1, by simpa using HV11.out.2.2.1.2, Else.refl _ _⟩
                      case round =>
                        obtain ⟨i, rfl, hi, hqc, hqd, hE⟩ := hrel
                        have HI := Lib.hid (And.intro hqc (And.intro hqd hE))
                        clear hqc hqd hE
                        by_cases hil : i < n
                        · have g1 : decide ((i : Int) < (n : Int)) = true := decide_eq_true (by omega)
                          obtain ⟨a, ha⟩ : ∃ a, VS[i]? = some a := ⟨_, List.getElem?_eq_getElem (by have := HV11.out.2.2.2; omega)⟩
                          have hwa := HVS.out.2.2 i a ha
                          obtain ⟨vb, cc8, e8, _, _⟩ := Un.own_shape HV11.out.1 (by omega)
                          cases e8
                          have hvb : ¬ (Oc vb ∨ Od vb) := by
                            have h1 := (HV11.out.1.lt vb rfl).1
                            have h2 := H10.out.size
                            rintro (h | h)
                            · have := (HQ.out.2.2.1 vb h).2; omega
                            · have := (HQ.out.2.2.2.1 vb h).2; omega
                          obtain ⟨S0, hSof, hSto⟩ : ∃ S0 : World → Prop, (∀ W : World, Else (fun k => Oc k ∨ Od k) w11 W → S0 W) ∧ (∀ W, S0 W → W.cell? ⟨vb, i, none⟩ = some (.int .i64 a)) := ⟨_, fun _ h => h, fun W hE => by
                            have hr := own_else HV11.out.1 hE fun k hk => by cases hk; exact hvb
                            have hzl : i < VS.length := lt_of_get ha
                            have hln := HV11.out.2.2.2
                            rw [hr.cellAt i (by omega)]
                            simp [ints, ha]⟩
                          have hd1 : Else (fun k => Oc k ∨ Od k) w11 wr.drew := Un.Else.drew HI.out.2.2
                          have hS : S0 wr.drew := hSof _ hd1
                          have HEQ := kind_cq (HI.out.1.below (Below.refl _ wr).drew) (by omega) (by omega) a hwa
                          have HEQH := Lib.hid HEQ
                          have EX := Lib.hid hSto
                          have HSF := Lib.hid hSof
                          have HD1 := Lib.hid (And.intro hd1 hwa)
                          clear hSto hSof hd1 HEQ hwa ha hvb
                          go_wp2_with fail
                          refine wp_region_held (S := S0) (by kernel_rfl) ?_
                          change wpAnyH _ _ _ _ _ 29 (List.replicate 29 false).toArray _ wr.drew
                          simp only [List.replicate_succ, List.replicate_zero]
                          refine any_take (i := 0) (some 122) (.pointer (some ⟨c, 0, none⟩)) rfl (by rfl) (by kernel_rfl) (by kernel_rfl) (by kernel_rfl) (fun _ _ _ h => h) (Or.inl ⟨by kernel_rfl, (fun W hw => by clear hw; go_simp)⟩) hS ?_
                          simp only [Act.put, List.setIfInBounds_toArray, List.set_cons_zero, List.set_cons_succ]
                          refine any_take (i := 1) (some 123) (.slice (some ⟨vb, 0, none⟩) n c11) rfl (by rfl) (by kernel_rfl) (by kernel_rfl) (by kernel_rfl) (fun _ _ _ h => h) (Or.inl ⟨by kernel_rfl, (fun W hw => by clear hw; go_simp)⟩) hS ?_
                          simp only [Act.put, List.setIfInBounds_toArray, List.set_cons_zero, List.set_cons_succ]
                          refine any_take (i := 2) (some 124) (.int .i64 (i : Nat)) rfl (by rfl) (by kernel_rfl) (by kernel_rfl) (by kernel_rfl) (fun _ _ _ h => h) (Or.inl ⟨by kernel_rfl, (fun W hw => by clear hw; go_simp)⟩) hS ?_
                          simp only [Act.put, List.setIfInBounds_toArray, List.set_cons_zero, List.set_cons_succ]
                          refine any_take (i := 3) (some 125) (.pointer (some ⟨vb, i, none⟩)) rfl (by rfl) (by kernel_rfl) (by kernel_rfl) (by kernel_rfl) (fun _ _ _ h => h) (Or.inl ⟨by kernel_rfl, (fun W hw => by clear hw; go_simp)⟩) hS ?_
                          simp only [Act.put, List.setIfInBounds_toArray, List.set_cons_zero, List.set_cons_succ]
                          refine any_take (i := 4) (some 126) (.int .i64 a) rfl (by rfl) (by kernel_rfl) (by kernel_rfl) (by kernel_rfl) (fun _ _ _ h => h) (Or.inl ⟨by kernel_rfl, (fun W hw => by have n0_ := EX.out W hw; clear hw; go_simp)⟩) hS ?_
                          simp only [Act.put, List.setIfInBounds_toArray, List.set_cons_zero, List.set_cons_succ]
                          refine any_take (i := 6) (some 128) (.pointer (some ⟨d, 0, none⟩)) rfl (by rfl) (by kernel_rfl) (by kernel_rfl) (by kernel_rfl) (fun _ _ _ h => h) (Or.inl ⟨by kernel_rfl, (fun W hw => by clear hw; go_simp)⟩) hS ?_
                          simp only [Act.put, List.setIfInBounds_toArray, List.set_cons_zero, List.set_cons_succ]
                          refine any_take (i := 7) (some 129) (.slice (some ⟨vb, 0, none⟩) n c11) rfl (by rfl) (by kernel_rfl) (by kernel_rfl) (by kernel_rfl) (fun _ _ _ h => h) (Or.inl ⟨by kernel_rfl, (fun W hw => by clear hw; go_simp)⟩) hS ?_
                          simp only [Act.put, List.setIfInBounds_toArray, List.set_cons_zero, List.set_cons_succ]
                          refine any_take (i := 8) (some 130) (.int .i64 (i : Nat)) rfl (by rfl) (by kernel_rfl) (by kernel_rfl) (by kernel_rfl) (fun _ _ _ h => h) (Or.inl ⟨by kernel_rfl, (fun W hw => by clear hw; go_simp)⟩) hS ?_
                          simp only [Act.put, List.setIfInBounds_toArray, List.set_cons_zero, List.set_cons_succ]
                          refine any_take (i := 9) (some 131) (.pointer (some ⟨vb, i, none⟩)) rfl (by rfl) (by kernel_rfl) (by kernel_rfl) (by kernel_rfl) (fun _ _ _ h => h) (Or.inl ⟨by kernel_rfl, (fun W hw => by clear hw; go_simp)⟩) hS ?_
                          simp only [Act.put, List.setIfInBounds_toArray, List.set_cons_zero, List.set_cons_succ]
                          refine any_take (i := 10) (some 132) (.int .i64 a) rfl (by rfl) (by kernel_rfl) (by kernel_rfl) (by kernel_rfl) (fun _ _ _ h => h) (Or.inl ⟨by kernel_rfl, (fun W hw => by have n0_ := EX.out W hw; clear hw; go_simp)⟩) hS ?_
                          simp only [Act.put, List.setIfInBounds_toArray, List.set_cons_zero, List.set_cons_succ]
                          refine wpAnyH_all (rs := [5]) (by kernel_rfl) (by simp) fun q' hq' => ?_
                          obtain rfl : q' = 5 := by simpa using hq'
                          refine ops_call (d := some 127) rfl (by rfl) (by kernel_rfl) (by go_simp) (HEQH.out.mono ?_)
                          rintro e w12 ⟨r3, rfl, hr3, hqc, hE⟩
                          have hE12 : Else (fun k => Oc k ∨ Od k) w11 w12 := HD1.out.1.trans (hE.mono fun j hj => .inl hj)
                          have hqd12 := (HI.out.2.1.below (Below.refl _ wr).drew).keep hE fun j hd hc => HQ.out.2.2.2.2.1 j hc hd
                          have hS12 := HSF.out w12 hE12
                          have HEQ := kind_cq hqd12 (by omega) (by have := HSM.out.2.1; omega) a HD1.out.2
                          have HEQH2 := Lib.hid HEQ
                          have H12 := Lib.hid (And.intro hqc (And.intro hqd12 (And.intro hE12 hr3)))
                          clear hqc hqd12 hE12 hr3 hE HEQH HEQ
                          refine ⟨_, rfl, hS12, ?_⟩
                          simp only [Act.put, List.setIfInBounds_toArray, List.set_cons_zero, List.set_cons_succ]
                          refine wpAnyH_all (rs := [11]) (by kernel_rfl) (by simp) fun q' hq' => ?_
                          obtain rfl : q' = 11 := by simpa using hq'
                          refine ops_call (d := some 133) rfl (by rfl) (by kernel_rfl) (by go_simp) (HEQH2.out.mono ?_)
                          rintro e w13 ⟨r4, rfl, hr4, hqd, hE⟩
                          obtain rfl : r4 = r3 := by
                            by_cases h0 : r3 = 0
                            · by_cases h1 : r4 = 0
                              · rw [h0, h1]
                              · exact (HSM.out.1.2.kind HQ.out.2.2.2.2.2.1 a _ _ hr4 H12.out.2.2.2 h1).symm
                            · exact HSM.out.1.1.kind HQ.out.2.2.2.2.2.2 a _ _ H12.out.2.2.2 hr4 h0
                          have hE13 : Else (fun k => Oc k ∨ Od k) w11 w13 := H12.out.2.2.1.trans (hE.mono fun j hj => .inr hj)
                          have hqc13 := H12.out.1.keep hE fun j hc hd => HQ.out.2.2.2.2.1 j hc hd
                          have hS13 := HSF.out w13 hE13
                          have HEQ := class_cq hqc13 (by omega) HS.out.1 a HD1.out.2
                          have HEQH3 := Lib.hid HEQ
                          have H13 := Lib.hid (And.intro hqc13 (And.intro hqd hE13))
                          clear hqd hqc13 hE13 hr4 hE HEQH2 HEQ
                          refine ⟨_, rfl, hS13, ?_⟩
                          simp only [Act.put, List.setIfInBounds_toArray, List.set_cons_zero, List.set_cons_succ]
                          refine any_take (i := 12) (some 134) (.bool false) rfl (by rfl) (by kernel_rfl) (by kernel_rfl) (by kernel_rfl) (fun _ _ _ h => h) (Or.inl ⟨by kernel_rfl, (fun W hw => by clear hw; go_simp)⟩) hS13 ?_
                          simp only [Act.put, List.setIfInBounds_toArray, List.set_cons_zero, List.set_cons_succ]
                          refine any_take (i := 13) (some 135) (.bool false) rfl (by rfl) (by kernel_rfl) (by kernel_rfl) (by kernel_rfl) (fun _ _ _ h => h) (Or.inl ⟨by kernel_rfl, (fun W hw => by clear hw; go_simp)⟩) hS13 ?_
                          simp only [Act.put, List.setIfInBounds_toArray, List.set_cons_zero, List.set_cons_succ]
                          refine any_take (i := 14) (some 136) (.pointer (some ⟨c, 0, none⟩)) rfl (by rfl) (by kernel_rfl) (by kernel_rfl) (by kernel_rfl) (fun _ _ _ h => h) (Or.inl ⟨by kernel_rfl, (fun W hw => by clear hw; go_simp)⟩) hS13 ?_
                          simp only [Act.put, List.setIfInBounds_toArray, List.set_cons_zero, List.set_cons_succ]
                          refine any_take (i := 15) (some 137) (.slice (some ⟨vb, 0, none⟩) n c11) rfl (by rfl) (by kernel_rfl) (by kernel_rfl) (by kernel_rfl) (fun _ _ _ h => h) (Or.inl ⟨by kernel_rfl, (fun W hw => by clear hw; go_simp)⟩) hS13 ?_
                          simp only [Act.put, List.setIfInBounds_toArray, List.set_cons_zero, List.set_cons_succ]
                          refine any_take (i := 16) (some 138) (.int .i64 (i : Nat)) rfl (by rfl) (by kernel_rfl) (by kernel_rfl) (by kernel_rfl) (fun _ _ _ h => h) (Or.inl ⟨by kernel_rfl, (fun W hw => by clear hw; go_simp)⟩) hS13 ?_
                          simp only [Act.put, List.setIfInBounds_toArray, List.set_cons_zero, List.set_cons_succ]
                          refine any_take (i := 17) (some 139) (.pointer (some ⟨vb, i, none⟩)) rfl (by rfl) (by kernel_rfl) (by kernel_rfl) (by kernel_rfl) (fun _ _ _ h => h) (Or.inl ⟨by kernel_rfl, (fun W hw => by clear hw; go_simp)⟩) hS13 ?_
                          simp only [Act.put, List.setIfInBounds_toArray, List.set_cons_zero, List.set_cons_succ]
                          refine any_take (i := 18) (some 140) (.int .i64 a) rfl (by rfl) (by kernel_rfl) (by kernel_rfl) (by kernel_rfl) (fun _ _ _ h => h) (Or.inl ⟨by kernel_rfl, (fun W hw => by have n0_ := EX.out W hw; clear hw; go_simp)⟩) hS13 ?_
                          simp only [Act.put, List.setIfInBounds_toArray, List.set_cons_zero, List.set_cons_succ]
                          refine any_take (i := 20) (some 142) (.pointer (some ⟨d, 0, none⟩)) rfl (by rfl) (by kernel_rfl) (by kernel_rfl) (by kernel_rfl) (fun _ _ _ h => h) (Or.inl ⟨by kernel_rfl, (fun W hw => by clear hw; go_simp)⟩) hS13 ?_
                          simp only [Act.put, List.setIfInBounds_toArray, List.set_cons_zero, List.set_cons_succ]
                          refine any_take (i := 21) (some 143) (.slice (some ⟨vb, 0, none⟩) n c11) rfl (by rfl) (by kernel_rfl) (by kernel_rfl) (by kernel_rfl) (fun _ _ _ h => h) (Or.inl ⟨by kernel_rfl, (fun W hw => by clear hw; go_simp)⟩) hS13 ?_
                          simp only [Act.put, List.setIfInBounds_toArray, List.set_cons_zero, List.set_cons_succ]
                          refine any_take (i := 22) (some 144) (.int .i64 (i : Nat)) rfl (by rfl) (by kernel_rfl) (by kernel_rfl) (by kernel_rfl) (fun _ _ _ h => h) (Or.inl ⟨by kernel_rfl, (fun W hw => by clear hw; go_simp)⟩) hS13 ?_
                          simp only [Act.put, List.setIfInBounds_toArray, List.set_cons_zero, List.set_cons_succ]
                          refine any_take (i := 23) (some 145) (.pointer (some ⟨vb, i, none⟩)) rfl (by rfl) (by kernel_rfl) (by kernel_rfl) (by kernel_rfl) (fun _ _ _ h => h) (Or.inl ⟨by kernel_rfl, (fun W hw => by clear hw; go_simp)⟩) hS13 ?_
                          simp only [Act.put, List.setIfInBounds_toArray, List.set_cons_zero, List.set_cons_succ]
                          refine any_take (i := 24) (some 146) (.int .i64 a) rfl (by rfl) (by kernel_rfl) (by kernel_rfl) (by kernel_rfl) (fun _ _ _ h => h) (Or.inl ⟨by kernel_rfl, (fun W hw => by have n0_ := EX.out W hw; clear hw; go_simp)⟩) hS13 ?_
                          simp only [Act.put, List.setIfInBounds_toArray, List.set_cons_zero, List.set_cons_succ]
                          refine wpAnyH_all (rs := [19]) (by kernel_rfl) (by simp) fun q' hq' => ?_
                          obtain rfl : q' = 19 := by simpa using hq'
                          refine ops_call (d := some 141) rfl (by rfl) (by kernel_rfl) (by go_simp) (HEQH3.out.mono ?_)
                          rintro e w14 ⟨vc, ys, rfl, hrd, hcl, hyl, hb14⟩
                          obtain ⟨Ac, cc, rfl⟩ := hrd.form
                          have hE14 : Else (fun k => Oc k ∨ Od k) w11 w14 := H13.out.2.2.trans (Else.of_below hb14)
                          have hS14 := HSF.out w14 hE14
                          have HEQ := class_cq (H13.out.2.1.below hb14) (by have := HSM.out.2.1; omega) HSM.out.2.2 a HD1.out.2
                          have HEQH4 := Lib.hid HEQ
                          have H14 := Lib.hid (And.intro hrd (And.intro hcl (And.intro hyl (And.intro hb14 hE14))))
                          clear hrd hcl hyl hb14 hE14 HEQH3 HEQ
                          refine ⟨_, rfl, hS14, ?_⟩
                          simp only [Act.put, List.setIfInBounds_toArray, List.set_cons_zero, List.set_cons_succ]
                          refine wpAnyH_all (rs := [25]) (by kernel_rfl) (by simp) fun q' hq' => ?_
                          obtain rfl : q' = 25 := by simpa using hq'
                          refine ops_call (d := some 147) rfl (by rfl) (by kernel_rfl) (by go_simp) (HEQH4.out.mono ?_)
                          rintro e w15 ⟨vd, zs, rfl, hrd, hcl, hyl, hb15⟩
                          obtain rfl : zs = ys := (hcl.uniq H14.out.2.1 fun b => ⟨HSM.out.1.2.same a b, HSM.out.1.1.same a b⟩)
                          obtain ⟨Ad, cd, rfl⟩ := hrd.form
                          have hE15 : Else (fun k => Oc k ∨ Od k) w11 w15 := H14.out.2.2.2.2.trans (Else.of_below hb15)
                          have hS15 := HSF.out w15 hE15
                          have HEQ := rints_any zs zs _ _ w15 (H14.out.1.below hb15) hrd (by have := H14.out.2.2.1; omega) (by have := H14.out.2.2.1; omega)
                          rw [show (zs == zs) = true from by simp] at HEQ
                          have HEQH5 := Lib.hid HEQ
                          have H15 := Lib.hid (And.intro hb15 hE15)
                          clear hrd hcl hyl hb15 hE15 HEQH4 HEQ
                          refine ⟨_, rfl, hS15, ?_⟩
                          simp only [Act.put, List.setIfInBounds_toArray, List.set_cons_zero, List.set_cons_succ]
                          refine wpAnyH_all (rs := [26]) (by kernel_rfl) (by simp) fun q' hq' => ?_
                          obtain rfl : q' = 26 := by simpa using hq'
                          refine ops_call (d := some 148) rfl (by rfl) (by kernel_rfl) (by go_simp) (HEQH5.out.mono ?_)
                          rintro e w16 ⟨rfl, hb16⟩
                          have hE16 : Else (fun k => Oc k ∨ Od k) w11 w16 := H15.out.2.trans (Else.of_below hb16)
                          have hS16 := HSF.out w16 hE16
                          have H16 := Lib.hid (And.intro ((H14.out.2.2.2.1.trans (H15.out.1.mono H14.out.2.2.2.1.size)).trans (hb16.mono (Nat.le_trans H14.out.2.2.2.1.size H15.out.1.size))) hE16)
                          clear hb16 hE16 HEQH5
                          refine ⟨_, rfl, hS16, ?_⟩
                          simp only [Act.put, List.setIfInBounds_toArray, List.set_cons_zero, List.set_cons_succ]
                          refine any_take (i := 27) (some 149) (.bool false) rfl (by rfl) (by kernel_rfl) (by kernel_rfl) (by kernel_rfl) (fun _ _ _ h => h) (Or.inl ⟨by kernel_rfl, (fun W hw => by clear hw; go_simp)⟩) hS16 ?_
                          simp only [Act.put, List.setIfInBounds_toArray, List.set_cons_zero, List.set_cons_succ]
                          refine any_take (i := 28) (some 150) (.bool false) rfl (by rfl) (by kernel_rfl) (by kernel_rfl) (by kernel_rfl) (fun _ _ _ h => h) (Or.inl ⟨by kernel_rfl, (fun W hw => by clear hw; go_simp)⟩) hS16 ?_
                          simp only [Act.put, List.setIfInBounds_toArray, List.set_cons_zero, List.set_cons_succ]
                          refine wpAnyH_done (by kernel_rfl) ?_ _
                          clear hS hS12 hS13 hS14 hS15 hS16 EX HSF
                          go_wp2_with fail
                          refine ⟨⟨i + 1, congrArg (Value.int .i64) (by omega), by omega, (H13.out.1.below H16.out.1).more (by push_cast; omega), (H13.out.2.1.below H16.out.1).more (by push_cast; omega), H16.out.2⟩, ?_⟩
                          show n - (intOf (.int .i64 ((i : Int) + 1))).toNat < n - (intOf (.int .i64 (i : Nat))).toNat
                          simp only [intOf]
                          omega
                        · have g1 : decide ((i : Int) < (n : Int)) = false := decide_eq_false (by omega)
                          have HB9 := Lib.hid (show Below w.heap.size w wr from (HBW.out.trans (HV11.out.2.1.mono HBW.out.size)).trans (HI.out.2.2.below (fun j hj => by
                            have h4 := HB4.out.size
                            rcases hj with hj | hj
                            · have := (HQ.out.2.2.1 j hj).1; omega
                            · have := (HQ.out.2.2.2.1 j hj).1; omega) (Nat.le_trans HBW.out.size HV11.out.2.1.size)))
                          go_wp2_with fail
                          refine (HAW.out _).mono ?_
                          rintro e w12 ⟨rfl, hb12⟩
                          have HB12 := Lib.hid (HB9.out.trans (hb12.mono HB9.out.size))
                          clear hb12
                          go_wp2_with fail
                          exact bodyPost_ret (results_tmp rfl _ _ _) rfl ⟨rfl, HB12.out⟩
end Go.Proofs.Ytcaclgaaaanfnaa
