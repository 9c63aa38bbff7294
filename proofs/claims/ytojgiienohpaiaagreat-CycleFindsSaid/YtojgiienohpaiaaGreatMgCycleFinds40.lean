/- Texts of one proof, one behind the other. -/
import Derived.Test.YtojgiienohpaiaaGreatMgCycleFinds39
import Derived.Test.YtojgiienohpaiaaGreatMgCycleFinds35
namespace Go.Proofs.YtojgiienohpaiaaGreat
open Go.RowKit
open Un (rowI rowI_get Else own_else wp_world)
attribute [local go_sem] Oper.semAt_some
attribute [local go_sem ↓] builtin_app
set_option maxRecDepth 100000
theorem rights_rt3 (l : List Eqn) : ∀ x ∈ rights l, rtE x = true := fun x hx => (List.mem_filter.1 hx).2
theorem EqV.len3 {B : Nat} {w : World} {l : List Eqn} {v : Value} (h : EqV B w l v) : l.length ≤ 9223372036854775807 := by
  obtain ⟨A, c, _, h1, _⟩ := h
  by_cases h0 : 0 < l.length
  · obtain ⟨_, _, _, _, h2, h3, _⟩ := h1 h0
    unfold maxLen at h3
    omega
  · omega
noncomputable def endless (G : List Gn) (cc : Nat → Nat) (a : Int) : Bool := @decide (∃ i, gvar G a = some i ∧ ¬ AccC G cc (cc i)) (Classical.propDecidable _)
theorem endless_is {G : List Gn} {cc : Nat → Nat} {a : Int} : endless G cc a = true ↔ ∃ i, gvar G a = some i ∧ ¬ AccC G cc (cc i) := by
  unfold endless
  exact @decide_eq_true_iff _ (Classical.propDecidable _)
section CyZs
variable {G : List Gn} {E : List (Nat × Nat)} {cc col ro : Nat → Nat} {kn : Kn}
theorem fin_colors (hB : Both G col ro kn E cc) (hp : Gp G) (hl : GL G) : FinC G E ↔ ∀ i, i < G.length → ¬ Cp G cc (cc i) (cc i) := by
  have hpl : ∀ p ∈ G, ∀ u ∈ p.2.2.2, u < G.length := fun p hh => (hp p hh).2
  constructor
  · intro hf i hi
    exact ((acc_color hB hi).1 (acc_all hB.nc hB.gn hl hf i hi)).no
  · intro h v i hv
    have hi := gvar_lt hv
    refine (acc_color hB hi).2 (Classical.byContradiction fun hna => ?_)
    obtain ⟨d, hd, hdd⟩ := (acc_colors hpl hi).1 hna
    rcases hd with rfl | hd
    · exact h i hi hdd
    · obtain ⟨u, hu, rfl⟩ := hd.at hpl
      exact h u hu hdd
theorem want_none (hB : Both G col ro kn E cc) : (vsort G).filter (endless G cc) = [] ↔ FinC G E := by
  rw [List.filter_eq_nil_iff]
  constructor
  · intro h v i hv
    have h1 := h v (var_vsort hv)
    rw [endless_is] at h1
    exact Classical.byContradiction fun hna => h1 ⟨i, hv, fun ha => hna ((acc_color hB (gvar_lt hv)).2 ha)⟩
  · intro h a _
    rw [endless_is]
    rintro ⟨i, hi, hna⟩
    exact hna ((acc_color hB (gvar_lt hi)).1 (h a i hi))
theorem want_same (hB : Both G col ro kn E cc) {bb : Int → Bool} (h : ∀ v i, gvar G v = some i → (bb v = true ↔ ¬ Acc (Nx G E) i)) : (vsort G).filter bb = (vsort G).filter (endless G cc) := by
  refine List.filter_congr fun a ha => ?_
  obtain ⟨_, i, hi, hlt⟩ := vsort_var ha
  rw [Bool.eq_iff_iff, h a i hi, endless_is, acc_color hB hlt]
  constructor
  · exact fun hna => ⟨i, hi, hna⟩
  · rintro ⟨i', hi', hna⟩
    rw [hi] at hi'
    cases hi'
    exact hna
end CyZs
set_option maxHeartbeats 16000000 in
theorem cfinds_law (w : World) (l : List Eqn) (v : Value) (hl : ArgE w v l) :
    Calls Tryz.prog 3 #[v] w fun e w' => e = .returned (.bool true) ∧ Below w.heap.size w w' := by
  have HG1 := Lib.hid (great12_any w l v hl.1 hl.1.len3)
  have HL := Lib.hid hl
  have HAW := Lib.hid awake13
  obtain ⟨Al, cl, rfl⟩ := hl.1.form
  clear hl
  go_enter Tryz.func3, Tryz.ntmps3
  go_wp2_with fail
  refine HG1.out.mono ?_
  clear HG1
  rintro e w1 ⟨g1, rfl, hg1, hb1⟩
  have HB1 := Lib.hid hb1
  cases g1 with
  | true =>
    clear hg1 hb1
    go_wp2_with fail
    refine (HAW.out w1).mono ?_
    rintro e w2 ⟨rfl, hb2⟩
    have HB2 := Lib.hid (HB1.out.trans (hb2.mono HB1.out.size))
    clear hb2
    go_wp2_with fail
    exact bodyPost_ret (results_tmp rfl _ _ _) rfl ⟨rfl, HB2.out⟩
  | false =>
    have hl1 := hg1 rfl
    have HR1 := Lib.hid (rights12_any w1 l (.slice Al l.length cl) (HL.out.1.later hb1) hl1.1 hl1.2)
    clear hg1 hb1
    go_wp2_with fail
    refine HR1.out.mono ?_
    clear HR1
    rintro e w4 ⟨v3, rfl, he3, hb3⟩
    have HB4 := Lib.hid (HB1.out.trans (hb3.mono HB1.out.size))
    obtain ⟨A3, c3, rfl⟩ := he3.form
    have hn1 : (rights l).length ≤ 20 := Nat.le_trans (rights_len l) hl1.1
    have hz1 : esz (rights l) ≤ 160 := Nat.le_trans (esz_rights l) hl1.2
    have HW := Lib.hid (And.intro (EqW.rights HL.out.2) (rights_rt3 l))
    obtain ⟨L, hL⟩ : ∃ z, rights l = z := ⟨_, rfl⟩
    rw [hL] at he3 HW hn1 hz1 ⊢
    have HE := Lib.hid he3
    have HN := Lib.hid (And.intro hn1 hz1)
    clear hb3 he3 hl1 hL hn1 hz1
    have HMA := Lib.hid (made_any w4 L (.slice A3 L.length c3) HE.out HW.out.1 HW.out.2 (by have := HN.out; omega) (by have := HN.out; omega))
    go_wp2_with fail
    refine HMA.out.mono ?_
    clear HMA
    rintro e w5 ⟨c, O, rfl, hC5, hO5, hb5⟩
    have HCL := Lib.hid (close_any w5 L (.slice A3 L.length c3) (HE.out.later hb5) HW.out.2 (by have := HN.out; omega) (by have := HN.out; omega))
    have H5 := Lib.hid (And.intro hC5 (And.intro hO5 hb5))
    clear hC5 hO5 hb5
    obtain ⟨s, hs⟩ : ∃ s, cls L = s := ⟨_, rfl⟩
    have hsl : s.1.length ≤ 160 := by have h1 := cls_len L; have h2 := HN.out; rw [hs] at h1; omega
    have hgn : GN s.1 := by rw [← hs]; exact cls_GN L HW.out.1
    have hgl : GL s.1 := by rw [← hs]; exact cls_gl L
    have hgk : GK s.1 := by rw [← hs]; exact cls_GK L HW.out.2
    have hsz : s.1.length ≤ esz L := by have h1 := cls_len L; rw [hs] at h1; exact h1
    rw [hs] at HCL H5
    have HS := Lib.hid (And.intro hsl (And.intro hgn (And.intro hgl (And.intro hgk hsz))))
    clear hsl hgn hgl hgk hsz hs
    go_wp2_with fail
    refine HCL.out.mono ?_
    clear HCL
    rintro e w6 ⟨vm, vs, M, cc, rfl, hRg, hcol, hrc, hec, hcd, hb6⟩
    have hAn : An3 (fun b => w5.heap.size ≤ b) w5.heap.size w6 vm vs M s.1 cc := An3.of_rg hRg hcol
    obtain ⟨Am, cm, rfl⟩ := hAn.row.form
    obtain ⟨As, cs, rfl, _, _⟩ := Un.own_form hAn.col
    obtain ⟨Q, hQ⟩ : ∃ Q, M.length = Q := ⟨_, rfl⟩
    have hlenM := hAn.len
    rw [hQ] at hAn hlenM ⊢
    obtain ⟨w7, hw7⟩ : ∃ w7, w6.alloc (.cells #[.slice Am Q cm, .slice As Q cs] 33) = w7 := ⟨_, rfl⟩
    have hb7 : Below w6.heap.size w6 w7 := by rw [← hw7]; exact (Below.refl _ _).alloc (Nat.le_refl _) _
    have hx7 : w7.heap[w6.heap.size]? = some (.cells #[.slice Am Q cm, .slice As Q cs] 33) := by rw [← hw7]; exact heap_alloc_new _ _
    have hb57 : Below w5.heap.size w5 w7 := hb6.trans (hb7.mono hb6.size)
    have hC7 := H5.out.1.keep (T := fun _ => False) (Else.of_below hb57) fun _ _ h => h
    have HCT := Lib.hid (count_clo hC7 (by have := HN.out; omega) (by have := HS.out.1; omega) HS.out.2.1 HS.out.2.2.1)
    have HAN : Hid (∀ W, Else O w7 W → An3 (fun b => w5.heap.size ≤ b) w5.heap.size W (.slice Am Q cm) (.slice As Q cs) M s.1 cc ∧ W.heap[w6.heap.size]? = some (.cells #[.slice Am Q cm, .slice As Q cs] 33)) := Lib.hid fun W hW => ⟨(hAn.below hb7).to hW (fun k hk hd => by have := (H5.out.2.1 k hk).2; omega) (fun k hk e => by have h1 := (H5.out.2.1 k hk).2; have h2 := (hAn.col.lt k e).1; omega), (hW.block _ (Array.getElem?_eq_some_iff.1 hx7).1 (fun hk => by have h1 := (H5.out.2.1 _ hk).2; have h2 := hb6.size; omega)).trans hx7⟩
    have H7 := Lib.hid (And.intro hrc (And.intro hec (And.intro hcd (And.intro hlenM (And.intro hQ hb57)))))
    have HW7 := Lib.hid hw7
    have hQb : Q ≤ 160 := by have := HS.out.1; omega
    clear hRg hcol hrc hec hcd hb6 hAn hlenM hQ hb7 hx7 hb57 hC7 hw7
    go_wp2_with fail
    rw [HW7.out]
    refine HCT.out.mono ?_
    clear HCT
    rintro e w8 ⟨⟨t, q, rfl, ht, hq⟩, hC8, hE8⟩
    have hx8 := (HAN.out w8 hE8).2
    have y0 : w8.cell? ⟨w6.heap.size, 0, none⟩ = some (.slice Am Q cm) := cell_of_row w8 _ 0 _ _ (0, 0) hx8
    have y1 : w8.cell? ⟨w6.heap.size, 1, none⟩ = some (.slice As Q cs) := cell_of_row w8 _ 1 _ _ (0, 0) hx8
    have HCH := Lib.hid (clash3 (HAN.out w8 hE8).1 (by have := HS.out.1; omega) H7.out.1 H7.out.2.1 H7.out.2.2.1)
    have H8 := Lib.hid (And.intro ht (And.intro hq (And.intro hC8 hE8)))
    clear ht hq hC8 hE8 hx8
    go_wp2_with fail
    refine HCH.out.mono ?_
    clear HCH
    rintro e w9 ⟨⟨b, rfl, hb⟩, hb9⟩
    have hC9 := H8.out.2.2.1.keep (T := fun _ => False) (Else.of_below hb9) fun _ _ h => h
    have hE9 : Else O w7 w9 := H8.out.2.2.2.trans (Else.of_below hb9)
    have hlow : ∀ W, Else O w7 W → Below w.heap.size w W := fun W hW => HB4.out.trans (((H5.out.2.2.trans (H7.out.2.2.2.2.2.mono H5.out.2.2.size)).trans (hW.below (fun k hk => (H5.out.2.1 k hk).1) (Nat.le_trans H5.out.2.2.size H7.out.2.2.2.2.2.size))).mono HB4.out.size)
    have H9 := Lib.hid (And.intro hb (And.intro hC9 (And.intro hE9 hlow)))
    clear hb hb9 hC9 hE9 hlow y0 y1
    cases b with
    | true =>
      have hcl : Clash s.1 s.2 := H9.out.1.1 (by trivial)
      obtain rfl : t = false := by
        cases t with
        | false => rfl
        | true => exact absurd hcl (H8.out.1.1 (by trivial)).1
      have HFI := Lib.hid (finite_clo H9.out.2.1 (by have := HN.out; omega) (by have := HS.out.1; omega) HS.out.2.1 HS.out.2.2.1)
      have HCLS := Lib.hid hcl
      clear hcl
      go_wp2_with fail
      refine HFI.out.mono ?_
      clear HFI
      rintro e wa ⟨⟨ta, rfl, hta⟩, hCa, hEa⟩
      obtain rfl : ta = false := by
        cases ta with
        | false => rfl
        | true => exact absurd HCLS.out (hta.1 rfl).1
      have HCY := Lib.hid (cyclic_clash hCa HCLS.out)
      have Ha := Lib.hid (H9.out.2.2.1.trans hEa)
      clear hta hCa hEa
      go_wp2_with fail
      refine HCY.out.mono ?_
      clear HCY
      rintro e wb ⟨rfl, hbb⟩
      have Hb := Lib.hid (Ha.out.trans (Else.of_below hbb))
      clear hbb
      go_wp2_with fail
      refine (HAW.out wb).mono ?_
      rintro e wd ⟨rfl, hbd⟩
      have Hd := Lib.hid ((H9.out.2.2.2 _ Hb.out).trans (hbd.mono (H9.out.2.2.2 _ Hb.out).size))
      clear hbd
      go_wp2_with fail
      exact bodyPost_ret (results_tmp rfl _ _ _) rfl ⟨rfl, Hd.out⟩
    | false =>
      have hnc : ¬ Clash s.1 s.2 := fun h => by have := H9.out.1.2 h; cases this
      obtain ⟨b9, hb9⟩ : ∃ b9, L.length + 1 = b9 := ⟨_, rfl⟩
      obtain ⟨st, fs, m, hC9, _, _, hf1, hf2⟩ : ∃ st fs m, CsM O w9 c s.1 s.2 st fs m ∧ 0 ≤ st ∧ 0 ≤ st ∧ 0 ≤ fs ∧ fs ≤ 5000000000 := by
        have h := H9.out.2.1
        have h20 := HN.out.1
        rcases h with h | h
        · obtain ⟨st, fs, m, h1, h2, h3, h4, h5⟩ := h
          have hkk : ((L.length + 1 : Nat) : Int) ≤ 21 := by omega
          exact ⟨st, fs, m, h1, h2, h2, h4, by have h5 : fs ≤ ((L.length + 1 : Nat) : Int) * 100000000 := h5; omega⟩
        · exact absurd h.1 hnc
      obtain ⟨⟨A, kn, nx, col, ro, hCl, hJ, hR, hBr, hm⟩, hGI, hGp⟩ := hC9
      have hBoth : Both s.1 col ro kn s.2 cc := ⟨hJ, H7.out.1, H7.out.2.1, H7.out.2.2.1, HS.out.2.1, HS.out.2.2.2.1, hnc⟩
      have HC9 := Lib.hid (show CsM O w9 c s.1 s.2 st fs m ∧ 0 ≤ fs ∧ fs ≤ 5000000000 from ⟨⟨⟨A, kn, nx, col, ro, hCl, hJ, hR, hBr, hm⟩, hGI, hGp⟩, hf1, hf2⟩)
      have HBO := Lib.hid (And.intro hBoth hGp)
      have hx9 := (HAN.out w9 H9.out.2.2.1).2
      have y0 : w9.cell? ⟨w6.heap.size, 0, none⟩ = some (.slice Am Q cm) := cell_of_row w9 _ 0 _ _ (0, 0) hx9
      have y1 : w9.cell? ⟨w6.heap.size, 1, none⟩ = some (.slice As Q cs) := cell_of_row w9 _ 1 _ _ (0, 0) hx9
      have HRV := rvars11o w9 (.slice Am Q cm) M (HAN.out w9 H9.out.2.2.1).1.row.1 (by have := H7.out.2.2.2.2.1; omega)
      rw [(HAN.out w9 H9.out.2.2.1).1.gm] at HRV
      have HRV := Lib.hid HRV
      clear hnc hCl hJ hR hBr hm hGI hGp hBoth hx9 hf1 hf2 hb9
      go_wp2_with fail
      refine HRV.out.mono ?_
      clear HRV
      rintro e wa ⟨vv, rfl, hov, hba⟩
      obtain ⟨Av, cv, rfl, _, _⟩ := Un.own_form hov
      obtain ⟨vl, hvs⟩ : ∃ z, vsort s.1 = z := ⟨_, rfl⟩
      rw [hvs] at hov ⊢
      have hvl : vl.length ≤ s.1.length := by rw [← hvs]; exact vsort_le_ s.1
      obtain ⟨nv, hnv⟩ : ∃ z, vl.length = z := ⟨_, rfl⟩
      rw [hnv] at hov hvl ⊢
      have hnvb : nv ≤ 160 := by have := HS.out.1; omega
      have HA := Lib.hid (And.intro hov (And.intro hvs (And.intro hnv hba)))
      clear hov hvs hnv hba y0 y1 hvl
      go_wp2_with fail
      obtain ⟨bw, hbw⟩ : ∃ bw, endless s.1 cc = bw := ⟨_, rfl⟩
      have FW : Hid (∀ W, Below wa.heap.size wa W → An3 (fun b => w5.heap.size ≤ b) w5.heap.size W (.slice Am Q cm) (.slice As Q cs) M s.1 cc ∧ W.cell? ⟨w6.heap.size, 0, none⟩ = some (.slice Am Q cm) ∧ W.cell? ⟨w6.heap.size, 1, none⟩ = some (.slice As Q cs)) := Lib.hid fun W hW => by
        have hE : Else O w7 W := H9.out.2.2.1.trans ((Else.of_below HA.out.2.2.2).trans (Else.of_below (hW.mono HA.out.2.2.2.size |> fun h => ⟨hW.os, hW.tape, hW.output, hW.size, fun k hk => hW.block k hk⟩)))
        have hx := (HAN.out W hE).2
        exact ⟨(HAN.out W hE).1, cell_of_row W _ 0 _ _ (0, 0) hx, cell_of_row W _ 1 _ _ (0, 0) hx⟩
      have HBW := Lib.hid hbw
      clear hbw
      go_loopg [7, 9, 10, 11, 12, 13] nv (fun nn s7 s9 _ _ _ _ wr => ∃ j : Nat, s9 = .int .i64 (j : Nat) ∧ j ≤ nv ∧ nv ≤ j + nn ∧ wr.ownsRow wa.heap.size 3 1 s7 ((vl.take j).filter bw).length (ints ((vl.take j).filter bw)) ∧ Below wa.heap.size wa wr)
      case atStart => exact ⟨0, rfl, Nat.zero_le _, by omega, World.ownsRow_nil _ _ _ _, Below.refl _ _⟩
      case round =>
        obtain ⟨j, rfl, hj, hjn, hown, hb⟩ := hrel
        obtain ⟨Aw, cw, rfl, _, _⟩ := Un.own_form hown
        obtain ⟨qw, hqw⟩ : ∃ z, ((vl.take j).filter bw).length = z := ⟨_, rfl⟩
        rw [hqw]
        have hqwb : qw ≤ 160 := by rw [← hqw]; exact Nat.le_trans (List.length_filter_le _ _) (by rw [List.length_take]; have := HA.out.2.2.1; omega)
        have HI := Lib.hid (And.intro hjn (And.intro hown (And.intro hb hqw)))
        clear hjn hown hb hqw
        by_cases hjl : j < nv
        · have f1 : decide ((j : Int) < (nv : Int)) = true := decide_eq_true (by omega)
          have f2 : decide (j < nv) = true := decide_eq_true hjl
          obtain ⟨a, ha⟩ : ∃ a, vl[j]? = some a := ⟨_, List.getElem?_eq_getElem (by rw [HA.out.2.2.1]; exact hjl)⟩
          obtain ⟨_, jn, hjv, hjnl⟩ := vsort_var (G := s.1) (a := a) (by rw [HA.out.2.1]; exact List.mem_of_getElem? ha)
          obtain ⟨bv, cvv, hsh, _, hbl⟩ := Un.own_shape HA.out.1 (by omega)
          injection hsh with hA1 hA2 hcc1
          subst hA1
          clear hA2 hcc1
          have hcv : wa.cell? ⟨bv, j, none⟩ = some (.int .i64 a) := (HA.out.1.cellAt j (by omega)).trans (by simp [ints, ha])
          have EX : Hid (∀ W, Below wr.heap.size wr W → W.cell? ⟨w6.heap.size, 0, none⟩ = some (.slice Am Q cm) ∧ W.cell? ⟨w6.heap.size, 1, none⟩ = some (.slice As Q cs) ∧ W.cell? ⟨bv, j, none⟩ = some (.int .i64 a)) := Lib.hid fun W hW => by
            have hb := HI.out.2.2.1.trans (hW.mono HI.out.2.2.1.size)
            exact ⟨(FW.out W hb).2.1, (FW.out W hb).2.2, (hb.cell (p := ⟨bv, j, none⟩) hbl).trans hcv⟩
          have HVR : Hid (∀ W, Below wr.heap.size wr W → Calls Tryz.prog 15 #[.slice Am Q cm, .int .i64 a] W fun e w' => e = .returned (.int .i64 (jn : Nat)) ∧ Below W.heap.size W w') := Lib.hid fun W hW => by
            have hb := HI.out.2.2.1.trans (hW.mono HI.out.2.2.1.size)
            have h := rvar_graph W (.slice Am Q cm) M (FW.out W hb).1.row.1 (by have := H7.out.2.2.2.2.1; omega) a
            rw [(FW.out W hb).1.gm] at h
            have e : ivar s.1 a = (jn : Int) := by unfold ivar; rw [hjv]
            rw [e] at h
            exact h
          have HJ := Lib.hid (And.intro ha (And.intro hjv (And.intro hjnl hjl)))
          have hjnb : jn ≤ 160 := by have := HS.out.1; omega
          clear ha hjv hjnl hbl hcv
          go_wp2_with fail
          have hS : Below wr.heap.size wr wr.drew := (Below.refl _ _).drew
          refine wp_region_held (S := (fun W => Below wr.heap.size wr W)) (by kernel_rfl) ?_
          change wpAnyH _ _ _ _ _ 8 (List.replicate 8 false).toArray _ wr.drew
          simp only [List.replicate_succ, List.replicate_zero]
          refine any_take (i := 0) (some 58) (.pointer (some ⟨w6.heap.size, 0, none⟩)) rfl (by rfl) (by kernel_rfl) (by kernel_rfl) (by kernel_rfl) (fun _ _ _ h => h) (Or.inl ⟨by kernel_rfl, (fun W hw => by clear hw; go_simp)⟩) hS ?_
          simp only [Act.put, List.setIfInBounds_toArray, List.set_cons_zero, List.set_cons_succ]
          refine any_take (i := 1) (some 59) (.slice Am Q cm) rfl (by rfl) (by kernel_rfl) (by kernel_rfl) (by kernel_rfl) (fun _ _ _ h => h) (Or.inl ⟨by kernel_rfl, (fun W hw => by obtain ⟨n0_, n1_, n2_⟩ := EX.out W hw; clear hw; go_simp)⟩) hS ?_
          simp only [Act.put, List.setIfInBounds_toArray, List.set_cons_zero, List.set_cons_succ]
          refine any_take (i := 2) (some 60) (.slice (some ⟨bv, 0, none⟩) nv cv) rfl (by rfl) (by kernel_rfl) (by kernel_rfl) (by kernel_rfl) (fun _ _ _ h => h) (Or.inl ⟨by kernel_rfl, (fun W hw => by clear hw; go_simp)⟩) hS ?_
          simp only [Act.put, List.setIfInBounds_toArray, List.set_cons_zero, List.set_cons_succ]
          refine any_take (i := 3) (some 61) (.int .i64 (j : Nat)) rfl (by rfl) (by kernel_rfl) (by kernel_rfl) (by kernel_rfl) (fun _ _ _ h => h) (Or.inl ⟨by kernel_rfl, (fun W hw => by clear hw; go_simp)⟩) hS ?_
          simp only [Act.put, List.setIfInBounds_toArray, List.set_cons_zero, List.set_cons_succ]
          refine any_take (i := 4) (some 62) (.pointer (some ⟨bv, j, none⟩)) rfl (by rfl) (by kernel_rfl) (by kernel_rfl) (by kernel_rfl) (fun _ _ _ h => h) (Or.inl ⟨by kernel_rfl, (fun W hw => by clear hw; have hjl_ := HJ.out.2.2.2; go_simp)⟩) hS ?_
          simp only [Act.put, List.setIfInBounds_toArray, List.set_cons_zero, List.set_cons_succ]
          refine any_take (i := 5) (some 63) (.int .i64 a) rfl (by rfl) (by kernel_rfl) (by kernel_rfl) (by kernel_rfl) (fun _ _ _ h => h) (Or.inl ⟨by kernel_rfl, (fun W hw => by obtain ⟨n0_, n1_, n2_⟩ := EX.out W hw; clear hw; go_simp)⟩) hS ?_
          simp only [Act.put, List.setIfInBounds_toArray, List.set_cons_zero, List.set_cons_succ]
          refine wpAnyH_all (rs := [6]) (by kernel_rfl) (by simp) fun q' hq' => ?_
          obtain rfl : q' = 6 := by simpa using hq'
          refine ops_call (d := some 64) rfl (by rfl) (by kernel_rfl) (by go_simp) ((HVR.out _ hS).mono ?_)
          rintro y wb ⟨rfl, hbb⟩
          have hSb : Below wr.heap.size wr wb := hS.trans (hbb.mono hS.size)
          refine ⟨_, rfl, hSb, ?_⟩
          simp only [Act.put, List.setIfInBounds_toArray, List.set_cons_zero, List.set_cons_succ]
          refine any_take (i := 7) (some 10) (.int .i64 (jn : Nat)) rfl (by rfl) (by kernel_rfl) (by kernel_rfl) (by kernel_rfl) (fun _ _ _ h => h) (Or.inl ⟨by kernel_rfl, (fun W hw => by clear hw; go_simp)⟩) hSb ?_
          simp only [Act.put, List.setIfInBounds_toArray, List.set_cons_zero, List.set_cons_succ]
          refine wpAnyH_done (by kernel_rfl) ?_ _
          have hab : Below wa.heap.size wa wb := HI.out.2.2.1.trans (hSb.mono HI.out.2.2.1.size)
          obtain ⟨z0, z1, _⟩ := EX.out wb hSb
          have HLP := Lib.hid (loop_any HBO.out.1 HBO.out.2 (FW.out wb hab).1 (by have := HS.out.1; omega) HJ.out.2.2.1)
          have HBB := Lib.hid (And.intro hab hSb)
          clear hS hSb hbb hab
          go_wp2_with fail
          refine HLP.out.mono ?_
          clear HLP
          rintro y wc ⟨⟨b1, rfl, hb1⟩, hbc⟩
          have hrc_ : Below wr.heap.size wr wc := HBB.out.2.trans (hbc.mono HBB.out.2.size)
          have hac : Below wa.heap.size wa wc := HI.out.2.2.1.trans (hrc_.mono HI.out.2.2.1.size)
          clear z0 z1
          obtain ⟨z0, z1, _⟩ := EX.out wc hrc_
          have HCM := Lib.hid (comes_any HBO.out.1 HBO.out.2 (FW.out wc hac).1 (by have := HS.out.1; omega) HJ.out.2.2.1)
          have HBC := Lib.hid (And.intro hb1 (And.intro hac hrc_))
          clear hb1 hbc hrc_ hac
          go_wp2_with fail
          refine HCM.out.mono ?_
          clear HCM
          rintro y wd ⟨vC, C, rfl, hoC, hC, hClen, hbd⟩
          obtain ⟨AC, cC, rfl, _, _⟩ := Un.own_form hoC
          have hrd_ : Below wr.heap.size wr wd := HBC.out.2.2.trans (hbd.mono HBC.out.2.2.size)
          have had : Below wa.heap.size wa wd := HI.out.2.2.1.trans (hrd_.mono HI.out.2.2.1.size)
          obtain ⟨qC, hqC⟩ : ∃ z, C.length = z := ⟨_, rfl⟩
          rw [hqC] at hoC ⊢
          have hqCb : qC ≤ 160 := by have := HS.out.1; omega
          obtain ⟨bS, cS_, hshS, _, hbS⟩ := Un.own_shape (by have h := (FW.out wd had).1.col; rw [H7.out.2.2.2.2.1] at h; exact h) (by have h1 := H7.out.2.2.2.1; have h2 := HJ.out.2.2.1; omega)
          injection hshS with e1 e2 e3
          subst e1
          clear e2 e3
          have HD := Lib.hid (And.intro hoC (And.intro hC (And.intro hqC (And.intro hrd_ (And.intro had hbS)))))
          clear hoC hC hqC hbd hrd_ had hClen hbS z0 z1
          obtain ⟨gA, rfl⟩ : ∃ g : Nat, g = gk := ⟨_, rfl⟩
          obtain ⟨wo, rfl⟩ : ∃ wo : World, wo = wr := ⟨_, rfl⟩
          go_wp2_with fail
          go_loopg [11, 13] Q (fun nn s11 s13 wi => ∃ (k : Nat) (t : Bool), s13 = .int .i64 (k : Nat) ∧ k ≤ Q ∧ Q ≤ k + nn ∧ s11 = .bool t ∧ (t = true ↔ (Cp s.1 cc (cc jn) (cc jn) ∨ ∃ k', k' < k ∧ Cp s.1 cc (cc jn) (cc k') ∧ Cp s.1 cc (cc k') (cc k'))) ∧ Below wd.heap.size wd wi)
          case atStart => exact ⟨0, b1, rfl, Nat.zero_le _, by omega, rfl, by rw [HBC.out.1]; simp, Below.refl _ _⟩
          case round =>
            obtain ⟨k, t, rfl, hk, hkn, rfl, htk, hbw_⟩ := hrel
            have hrw_ : Below wo.heap.size wo wr := HD.out.2.2.2.1.trans (hbw_.mono HD.out.2.2.2.1.size)
            have haw_ : Below wa.heap.size wa wr := HD.out.2.2.2.2.1.trans (hbw_.mono HD.out.2.2.2.2.1.size)
            obtain ⟨z0, z1, z2⟩ := EX.out wr hrw_
            have HK := Lib.hid (And.intro hkn (And.intro htk (And.intro hbw_ (And.intro hrw_ haw_))))
            clear hkn htk hbw_ hrw_ haw_
            by_cases hkl : k < Q
            · have g1 : decide ((k : Int) < (Q : Int)) = true := decide_eq_true (by omega)
              have g2 : decide (k < Q) = true := decide_eq_true hkl
              have hcol := (FW.out wr HK.out.2.2.2.2).1.col
              rw [H7.out.2.2.2.2.1] at hcol
              have z3 : wr.cell? ⟨bS, k, none⟩ = some (.int .i64 (cc k : Nat)) := (hcol.cellAt k (by omega)).trans (rowI_get hkl)
              have HIN := Lib.hid (in_any wr (.slice AC qC cC) C (cc k) (by have h := Rd.of_own (own_below HD.out.1 HK.out.2.2.1); rw [← HD.out.2.2.1] at h; rw [← HD.out.2.2.1]; exact h) (by have := HD.out.2.2.1; omega))
              have hkG : k < s.1.length := by have := H7.out.2.2.2.1; omega
              have HKL := Lib.hid (And.intro hkl hkG)
              clear hcol hkG
              go_wp2_with fail
              refine HIN.out.mono ?_
              clear HIN
              rintro y we ⟨⟨bi, rfl, hbi⟩, hbe⟩
              have hde : Below wd.heap.size wd we := HK.out.2.2.1.trans (hbe.mono HK.out.2.2.1.size)
              have hre : Below wo.heap.size wo we := HK.out.2.2.2.1.trans (hbe.mono HK.out.2.2.2.1.size)
              have hae : Below wa.heap.size wa we := HK.out.2.2.2.2.trans (hbe.mono HK.out.2.2.2.2.size)
              have hstep : ∀ t' : Bool, (t' = true ↔ (t = true ∨ (bi = true ∧ Cp s.1 cc (cc k) (cc k)))) → (t' = true ↔ (Cp s.1 cc (cc jn) (cc jn) ∨ ∃ k', k' < k + 1 ∧ Cp s.1 cc (cc jn) (cc k') ∧ Cp s.1 cc (cc k') (cc k'))) := fun t' h => by
                rw [h, HK.out.2.1, hbi, HD.out.2.1]
                constructor
                · rintro ((h1 | ⟨k', a1, a2⟩) | ⟨a1, a2⟩)
                  · exact .inl h1
                  · exact .inr ⟨k', by omega, a2⟩
                  · exact .inr ⟨k, by omega, a1, a2⟩
                · rintro (h1 | ⟨k', a1, a2, a3⟩)
                  · exact .inl (.inl h1)
                  · rcases Nat.lt_or_ge k' k with h2 | h2
                    · exact .inl (.inr ⟨k', h2, a2, a3⟩)
                    · obtain rfl : k' = k := by omega
                      exact .inr ⟨a2, a3⟩
              clear z0 z1 z2 z3
              obtain ⟨z0, z1, z2⟩ := EX.out we hre
              have HLQ := Lib.hid (loop_any HBO.out.1 HBO.out.2 (FW.out we hae).1 (by have := HS.out.1; omega) HKL.out.2)
              have HEE := Lib.hid (And.intro hstep hde)
              clear hbi hbe hde hre hae hstep
              cases bi with
              | false =>
                go_wp2_with fail
                go_roundg (Q - (k + 1))
                case rel => exact ⟨k + 1, t, by go_num, HKL.out.1, by omega, rfl, HEE.out.1 t (by simp), HEE.out.2⟩
                case measure => have h1 := HK.out.1; have h2 := HKL.out.1; omega
              | true =>
                cases t with
                | true =>
                  go_wp2_with fail
                  go_roundg (Q - (k + 1))
                  case rel => exact ⟨k + 1, true, by go_num, HKL.out.1, by omega, rfl, HEE.out.1 true (by simp), HEE.out.2⟩
                  case measure => have h1 := HK.out.1; have h2 := HKL.out.1; omega
                | false =>
                  go_wp2_with fail
                  refine HLQ.out.mono ?_
                  clear HLQ
                  rintro y wf ⟨⟨b2, rfl, hb2⟩, hbf⟩
                  have HFF := Lib.hid (And.intro hb2 (HEE.out.2.trans (hbf.mono HEE.out.2.size)))
                  clear hb2 hbf z0 z1 z2
                  go_wp2_with fail
                  go_roundg (Q - (k + 1))
                  case rel => exact ⟨k + 1, b2, by go_num, HKL.out.1, by omega, rfl, HEE.out.1 b2 (by rw [HFF.out.1]; simp), HFF.out.2⟩
                  case measure => have h1 := HK.out.1; have h2 := HKL.out.1; omega
            · have g1 : decide ((k : Int) < (Q : Int)) = false := decide_eq_false (by omega)
              have g2 : decide (k < Q) = false := decide_eq_false hkl
              have hbwa : bw a = t := by
                rw [Bool.eq_iff_iff, ← HBW.out, endless_is, HK.out.2.1]
                have hpl : ∀ p ∈ s.1, ∀ u ∈ p.2.2.2, u < s.1.length := fun p hp => (HBO.out.2 p hp).2
                constructor
                · rintro ⟨i, hi, hna⟩
                  rw [HJ.out.2.1] at hi
                  cases hi
                  obtain ⟨d, hd, hdd⟩ := (acc_colors hpl HJ.out.2.2.1).1 hna
                  rcases hd with rfl | hd
                  · exact .inl hdd
                  · obtain ⟨u, hu, rfl⟩ := hd.at hpl
                    exact .inr ⟨u, by have := H7.out.2.2.2.1; omega, hd, hdd⟩
                · rintro (h1 | ⟨k', _, h1, h2⟩)
                  · exact ⟨jn, HJ.out.2.1, (acc_colors hpl HJ.out.2.2.1).2 ⟨_, .inl rfl, h1⟩⟩
                  · exact ⟨jn, HJ.out.2.1, (acc_colors hpl HJ.out.2.2.1).2 ⟨_, .inr h1, h2⟩⟩
              have key : (vl.take (j + 1)).filter bw = (vl.take j).filter bw ++ if t then [a] else [] := by
                rw [List.take_add_one, HJ.out.1, List.filter_append]
                congr 1
                simp only [Option.toList_some, List.filter_cons, List.filter_nil, hbwa]
              have HKEY := Lib.hid key
              have hown := own_below HI.out.2.1 HK.out.2.2.2.1
              clear hbwa key hkl
              cases t with
              | false =>
                have HOW := Lib.hid hown
                clear hown
                go_wp2_with fail
                go_roundg (nv - (j + 1))
                case rel =>
                  refine ⟨j + 1, by go_num, HJ.out.2.2.2, by omega, ?_, HK.out.2.2.2.2⟩
                  rw [HKEY.out]
                  have h := HOW.out
                  rw [HI.out.2.2.2] at h
                  simp only [Bool.false_eq_true, if_false, List.append_nil, HI.out.2.2.2]
                  exact h
                case measure => have h1 := HI.out.1; have h2 := HJ.out.2.2.2; omega
              | true =>
                obtain ⟨v7, wg, hrun, ho7, hbg, -, hg7, hat7⟩ := app_int _ wa.heap.size (.slice Aw ((vl.take j).filter bw).length cw) ((vl.take j).filter bw) (own_below hown ((Below.refl _ _).alloc (Nat.le_refl _) (.cells #[.int .i64 a] 3))) (.slice (some ⟨wr.heap.size, 0, none⟩) 1 1) [a] (rd_new wr [.int .i64 a] _ 1 1 rfl (by unfold maxLen; omega)) (by have := HI.out.2.2.2; simp; omega) (by have := HK.out.2.2.2.2.size; simp; omega)
                rw [HI.out.2.2.2] at hrun
                have hsh7 : ∃ g c, v7 = .slice (some ⟨g, 0, none⟩) (qw + 1) c := by
                  obtain ⟨g, c, h, _⟩ := Un.own_shape ho7 (by simp)
                  rw [List.length_append, HI.out.2.2.2] at h
                  exact ⟨g, c, h⟩
                obtain ⟨g7, c7, rfl⟩ := hsh7
                have hrun : (app_ #[30, 30] 30 #[.slice Aw qw cw, .slice (some ⟨wr.heap.size, 0, none⟩) 1 1]).run Tryz.prog (wr.alloc (.cells #[.int .i64 a] 3)) = .ok (.slice (some ⟨g7, 0, none⟩) (qw + 1) c7) wg := hrun
                have hag : Below wa.heap.size wa wg := HK.out.2.2.2.2.trans (((Below.refl _ _).alloc (HK.out.2.2.2.2.size) _).trans hbg)
                have H7_ := Lib.hid (And.intro ho7 hag)
                have hjl2 := HJ.out.2.2.2
                clear hown ho7 hbg hg7 hat7 hag
                go_wp2_with fail
                go_roundg (nv - (j + 1))
                case rel =>
                  refine ⟨j + 1, by go_num, HJ.out.2.2.2, by omega, ?_, H7_.out.2⟩
                  rw [HKEY.out]
                  have h := H7_.out.1
                  rw [List.length_append, HI.out.2.2.2] at h
                  simp only [if_true, List.length_append, HI.out.2.2.2]
                  exact h
                case measure => have h1 := HI.out.1; have h2 := HJ.out.2.2.2; omega
        · have f1 : decide ((j : Int) < (nv : Int)) = false := decide_eq_false (by omega)
          have f2 : decide (j < nv) = false := decide_eq_false hjl
          obtain rfl : nv = j := by omega
          have hwl : (vl.take nv).filter bw = vl.filter bw := by rw [List.take_of_length_le (by have := HA.out.2.2.1; omega)]
          rw [hwl] at HI
          have hE : Else O w7 wr := H9.out.2.2.1.trans ((Else.of_below HA.out.2.2.2).trans (Else.of_below HI.out.2.2.1))
          have hl4 : Below w4.heap.size w4 wr := (H5.out.2.2.trans (H7.out.2.2.2.2.2.mono H5.out.2.2.size)).trans (hE.below (fun k hk => (H5.out.2.1 k hk).1) (Nat.le_trans H5.out.2.2.size H7.out.2.2.2.2.2.size))
          have HX := Lib.hid (And.intro hE hl4)
          clear hwl hE hl4 hjl hj
          obtain ⟨wz, rfl⟩ : ∃ wz : World, wz = wr := ⟨_, rfl⟩
          go_wp2_with fail
          go_loopg [14, 15] L.length (fun nn s14 s15 wr => ∃ i : Nat, s15 = .int .i64 (i : Nat) ∧ i ≤ L.length ∧ L.length ≤ i + nn ∧ s14 = .int .i64 ((1 + esz (L.take i) : Nat) : Int) ∧ Below wz.heap.size wz wr)
          case atStart => exact ⟨0, rfl, Nat.zero_le _, by omega, rfl, Below.refl _ _⟩
          case round =>
            obtain ⟨i, rfl, hi, hin, rfl, hb⟩ := hrel
            have hsi : esz (L.take i) ≤ esz L := esz_take L i
            have hz160 := HN.out.2
            obtain ⟨q1, hq1⟩ : ∃ q1, 1 + esz (L.take i) = q1 := ⟨_, rfl⟩
            rw [hq1]
            have HT := Lib.hid (And.intro hin (And.intro hq1 (And.intro hsi (HX.out.2.trans (hb.mono HX.out.2.size)))))
            have HTb := Lib.hid hb
            have hq1b : q1 ≤ 161 := by omega
            clear hin hq1 hsi hb hz160
            by_cases hil : i < L.length
            · have g1 : decide ((i : Int) < (L.length : Int)) = true := decide_eq_true (by omega)
              have g2 : decide (i < L.length) = true := decide_eq_true hil
              obtain ⟨b, off, rfl, hat, hty⟩ : ∃ b off, A3 = some ⟨b, off, none⟩ ∧ (∀ W, Below w4.heap.size w4 W → EqAt W b (off + i * 8) L[i]) ∧ (∀ W, Below w4.heap.size w4 W → EqT W.heap.size W L[i]) := by
                obtain ⟨b, off, hA, _, _⟩ := HE.out.at i hil
                refine ⟨b, off, hA, fun W hb => ?_, fun W hb => (HE.out.ty i hil).keep hb.size fun b off hlt => hb.cell (p := ⟨b, off, none⟩) hlt⟩
                obtain ⟨b', off', hA', _, hat⟩ := (HE.out.below hb).at i hil
                rw [hA] at hA'
                cases hA'
                exact hat
              have hss : esz (L.take i) + sz1 L[i] ≤ esz L := esz_at hil
              have hst := esz_step L i hil
              obtain ⟨x, hx⟩ : ∃ x, L[i] = x := ⟨_, rfl⟩
              rw [hx] at hat hty hss hst
              obtain ⟨⟨k0, n0, ⟨u1, u2, u3⟩, F⟩, ⟨k1, n1, ⟨v1, v2, v3⟩, F'⟩, a0, a1⟩ := x
              have EX : Hid (∀ W, Below wr.heap.size wr W → (W.cell? ⟨b, off + i * 8, none⟩ = some (.int .i64 k0) ∧ W.cell? ⟨b, off + i * 8 + 1, none⟩ = some (.int .i64 n0) ∧ W.cell? ⟨b, off + i * 8 + 2, none⟩ = some (.slice u1 u2 u3)) ∧ W.cell? ⟨b, off + i * 8 + 3, none⟩ = some (.int .i64 k1) ∧ W.cell? ⟨b, off + i * 8 + 3 + 1, none⟩ = some (.int .i64 n1) ∧ W.cell? ⟨b, off + i * 8 + 3 + 2, none⟩ = some (.slice v1 v2 v3)) := Lib.hid fun W hW => by
                obtain ⟨q0, q1, q2, q3, q4, q5, _, _⟩ := hat W (HT.out.2.2.2.trans (hW.mono HT.out.2.2.2.size))
                exact ⟨⟨q0, q1, q2⟩, q3, q4, q5⟩
              have hs12 : (1 + F.size) + (1 + F'.size) = sz1 ((k0, n0, (u1, u2, u3), F), (k1, n1, (v1, v2, v3), F'), a0, a1) := rfl
              have h160 := HN.out.2
              have HSL : Hid (∀ W, Below wr.heap.size wr W → Calls Tryz.prog 19 #[tyVal k0 n0 (slv (u1, u2, u3))] W fun e w' => e = .returned (.int .i64 (1 + F.size)) ∧ Below W.heap.size W w') := Lib.hid fun W hW => rsize_any (F.size + 1) F k0 n0 (slv (u1, u2, u3)) W (by omega) (by omega) (hty W (HT.out.2.2.2.trans (hW.mono HT.out.2.2.2.size))).1
              have HSR : Hid (∀ W, Below wr.heap.size wr W → Calls Tryz.prog 19 #[tyVal k1 n1 (slv (v1, v2, v3))] W fun e w' => e = .returned (.int .i64 (1 + F'.size)) ∧ Below W.heap.size W w') := Lib.hid fun W hW => rsize_any (F'.size + 1) F' k1 n1 (slv (v1, v2, v3)) W (by omega) (by omega) (hty W (HT.out.2.2.2.trans (hW.mono HT.out.2.2.2.size))).2
              obtain ⟨p1, hp1⟩ : ∃ p1, F.size = p1 := ⟨_, rfl⟩
              obtain ⟨p2, hp2⟩ : ∃ p2, F'.size = p2 := ⟨_, rfl⟩
              rw [hp1] at HSL hs12
              rw [hp2] at HSR hs12
              have hnx : q1 + (1 + p1) + (1 + p2) = 1 + esz (L.take (i + 1)) := by have := HT.out.2.1; omega
              have hp12 : p1 ≤ 200 ∧ p2 ≤ 200 := by omega
              have i1 : IntKind.i64.wrap ((q1 : Int) + (1 + (p1 : Int))) = (q1 : Int) + (1 + (p1 : Int)) := wrap_small _ (by omega) (by omega)
              have i2 : IntKind.i64.wrap ((q1 : Int) + (1 + (p1 : Int)) + (1 + (p2 : Int))) = (q1 : Int) + (1 + (p1 : Int)) + (1 + (p2 : Int)) := wrap_small _ (by omega) (by omega)
              have i3 : wrap64 ((q1 : Int) + (1 + (p1 : Int))) = (q1 : Int) + (1 + (p1 : Int)) := IntWalk.wrap64_in _ (by omega)
              have i4 : wrap64 ((q1 : Int) + (1 + (p1 : Int)) + (1 + (p2 : Int))) = (q1 : Int) + (1 + (p1 : Int)) + (1 + (p2 : Int)) := IntWalk.wrap64_in _ (by omega)
              have HNX := Lib.hid (And.intro hnx hil)
              clear hat hty hss hst hx hs12 h160 hnx hp1 hp2 
              dsimp only [tyVal, slv] at HSL HSR
              go_wp2_with fail
              have hS : Below wr.heap.size wr wr.drew := (Below.refl _ _).drew
              refine wp_region_held (S := (fun W => Below wr.heap.size wr W)) (by kernel_rfl) ?_
              change wpAnyH _ _ _ _ _ 16 (List.replicate 16 false).toArray _ wr.drew
              simp only [List.replicate_succ, List.replicate_zero]
              refine any_take (i := 0) (some 105) (.int .i64 (q1 : Nat)) rfl (by rfl) (by kernel_rfl) (by kernel_rfl) (by kernel_rfl) (fun _ _ _ h => h) (Or.inl ⟨by kernel_rfl, (fun W hw => by clear hw; go_simp)⟩) hS ?_
              simp only [Act.put, List.setIfInBounds_toArray, List.set_cons_zero, List.set_cons_succ]
              refine any_take (i := 1) (some 106) (.slice (some ⟨b, off, none⟩) L.length c3) rfl (by rfl) (by kernel_rfl) (by kernel_rfl) (by kernel_rfl) (fun _ _ _ h => h) (Or.inl ⟨by kernel_rfl, (fun W hw => by clear hw; go_simp)⟩) hS ?_
              simp only [Act.put, List.setIfInBounds_toArray, List.set_cons_zero, List.set_cons_succ]
              refine any_take (i := 2) (some 107) (.int .i64 (i : Nat)) rfl (by rfl) (by kernel_rfl) (by kernel_rfl) (by kernel_rfl) (fun _ _ _ h => h) (Or.inl ⟨by kernel_rfl, (fun W hw => by clear hw; go_simp)⟩) hS ?_
              simp only [Act.put, List.setIfInBounds_toArray, List.set_cons_zero, List.set_cons_succ]
              refine any_take (i := 3) (some 108) (.pointer (some ⟨b, off + i * 8, none⟩)) rfl (by rfl) (by kernel_rfl) (by kernel_rfl) (by kernel_rfl) (fun _ _ _ h => h) (Or.inl ⟨by kernel_rfl, (fun W hw => by clear hw; have hil_ := HNX.out.2; go_simp)⟩) hS ?_
              simp only [Act.put, List.setIfInBounds_toArray, List.set_cons_zero, List.set_cons_succ]
              refine any_take (i := 4) (some 109) (.pointer (some ⟨b, off + i * 8, none⟩)) rfl (by rfl) (by kernel_rfl) (by kernel_rfl) (by kernel_rfl) (fun _ _ _ h => h) (Or.inl ⟨by kernel_rfl, (fun W hw => by clear hw; go_simp)⟩) hS ?_
              simp only [Act.put, List.setIfInBounds_toArray, List.set_cons_zero, List.set_cons_succ]
              refine any_take (i := 5) (some 110) (.agg #[.int .i64 k0, .int .i64 n0, .slice u1 u2 u3]) rfl (by rfl) (by kernel_rfl) (by kernel_rfl) (by kernel_rfl) (fun _ _ _ h => h) (Or.inl ⟨by kernel_rfl, (fun W hw => by obtain ⟨⟨n0_, n1_, n2_⟩, m0_, m1_, m2_⟩ := EX.out W hw; clear hw; go_simp)⟩) hS ?_
              simp only [Act.put, List.setIfInBounds_toArray, List.set_cons_zero, List.set_cons_succ]
              refine any_take (i := 8) (some 113) (.slice (some ⟨b, off, none⟩) L.length c3) rfl (by rfl) (by kernel_rfl) (by kernel_rfl) (by kernel_rfl) (fun _ _ _ h => h) (Or.inl ⟨by kernel_rfl, (fun W hw => by clear hw; go_simp)⟩) hS ?_
              simp only [Act.put, List.setIfInBounds_toArray, List.set_cons_zero, List.set_cons_succ]
              refine any_take (i := 9) (some 114) (.int .i64 (i : Nat)) rfl (by rfl) (by kernel_rfl) (by kernel_rfl) (by kernel_rfl) (fun _ _ _ h => h) (Or.inl ⟨by kernel_rfl, (fun W hw => by clear hw; go_simp)⟩) hS ?_
              simp only [Act.put, List.setIfInBounds_toArray, List.set_cons_zero, List.set_cons_succ]
              refine any_take (i := 10) (some 115) (.pointer (some ⟨b, off + i * 8, none⟩)) rfl (by rfl) (by kernel_rfl) (by kernel_rfl) (by kernel_rfl) (fun _ _ _ h => h) (Or.inl ⟨by kernel_rfl, (fun W hw => by clear hw; have hil_ := HNX.out.2; go_simp)⟩) hS ?_
              simp only [Act.put, List.setIfInBounds_toArray, List.set_cons_zero, List.set_cons_succ]
              refine any_take (i := 11) (some 116) (.pointer (some ⟨b, off + i * 8 + 3, none⟩)) rfl (by rfl) (by kernel_rfl) (by kernel_rfl) (by kernel_rfl) (fun _ _ _ h => h) (Or.inl ⟨by kernel_rfl, (fun W hw => by clear hw; go_simp)⟩) hS ?_
              simp only [Act.put, List.setIfInBounds_toArray, List.set_cons_zero, List.set_cons_succ]
              refine any_take (i := 12) (some 117) (.agg #[.int .i64 k1, .int .i64 n1, .slice v1 v2 v3]) rfl (by rfl) (by kernel_rfl) (by kernel_rfl) (by kernel_rfl) (fun _ _ _ h => h) (Or.inl ⟨by kernel_rfl, (fun W hw => by obtain ⟨⟨n0_, n1_, n2_⟩, m0_, m1_, m2_⟩ := EX.out W hw; clear hw; go_simp)⟩) hS ?_
              simp only [Act.put, List.setIfInBounds_toArray, List.set_cons_zero, List.set_cons_succ]
              refine wpAnyH_all (rs := [6]) (by kernel_rfl) (by simp) fun q' hq' => ?_
              obtain rfl : q' = 6 := by simpa using hq'
              refine ops_call (d := some 111) rfl (by rfl) (by kernel_rfl) (by go_simp) ((HSL.out _ hS).mono ?_)
              rintro y wp ⟨rfl, hbp⟩
              have hSp : Below wr.heap.size wr wp := hS.trans (hbp.mono hS.size)
              clear hbp hS
              refine ⟨_, rfl, hSp, ?_⟩
              simp only [Act.put, List.setIfInBounds_toArray, List.set_cons_zero, List.set_cons_succ]
              refine any_take (i := 7) (some 112) (.int .i64 ((q1 : Int) + (1 + (p1 : Int)))) rfl (by rfl) (by kernel_rfl) (by kernel_rfl) (by kernel_rfl) (fun _ _ _ h => h) (Or.inl ⟨by kernel_rfl, (fun W hw => by clear hw; go_simp)⟩) hSp ?_
              simp only [Act.put, List.setIfInBounds_toArray, List.set_cons_zero, List.set_cons_succ]
              refine wpAnyH_all (rs := [13]) (by kernel_rfl) (by simp) fun q' hq' => ?_
              obtain rfl : q' = 13 := by simpa using hq'
              refine ops_call (d := some 118) rfl (by rfl) (by kernel_rfl) (by go_simp) ((HSR.out _ hSp).mono ?_)
              rintro y wq ⟨rfl, hbq⟩
              have hSq : Below wr.heap.size wr wq := hSp.trans (hbq.mono hSp.size)
              clear hbq hSp
              refine ⟨_, rfl, hSq, ?_⟩
              simp only [Act.put, List.setIfInBounds_toArray, List.set_cons_zero, List.set_cons_succ]
              refine any_take (i := 14) (some 119) (.int .i64 ((q1 : Int) + (1 + (p1 : Int)) + (1 + (p2 : Int)))) rfl (by rfl) (by kernel_rfl) (by kernel_rfl) (by kernel_rfl) (fun _ _ _ h => h) (Or.inl ⟨by kernel_rfl, (fun W hw => by clear hw; go_simp)⟩) hSq ?_
              simp only [Act.put, List.setIfInBounds_toArray, List.set_cons_zero, List.set_cons_succ]
              refine any_take (i := 15) (some 14) (.int .i64 ((q1 : Int) + (1 + (p1 : Int)) + (1 + (p2 : Int)))) rfl (by rfl) (by kernel_rfl) (by kernel_rfl) (by kernel_rfl) (fun _ _ _ h => h) (Or.inl ⟨by kernel_rfl, (fun W hw => by clear hw; go_simp)⟩) hSq ?_
              simp only [Act.put, List.setIfInBounds_toArray, List.set_cons_zero, List.set_cons_succ]
              refine wpAnyH_done (by kernel_rfl) ?_ _
              have hzq : Below wz.heap.size wz wq := HTb.out.trans (hSq.mono HTb.out.size)
              have HZQ := Lib.hid hzq
              clear hSq hzq EX HSL HSR
              go_wp2_with fail
              go_roundg (L.length - (i + 1))
              case rel =>
                have hl20 := HN.out.1
                have hil2 := HNX.out.2
                have hlc : ((i + 1 : Nat) : Int) = (i : Int) + 1 := by push_cast; rfl
                refine ⟨i + 1, ?_, HNX.out.2, by have h1 := HT.out.1; have h2 := HNX.out.2; omega, ?_, HZQ.out⟩
                · rw [IntWalk.wrap64_in _ (by omega), hlc]
                · have h := HNX.out.1
                  rw [← h]
                  push_cast
                  rfl
              case measure => have h1 := HT.out.1; have h2 := HNX.out.2; omega
            · have g1 : decide ((i : Int) < (L.length : Int)) = false := decide_eq_false (by omega)
              have g2 : decide (i < L.length) = false := decide_eq_false hil
              obtain rfl : i = L.length := by omega
              have hE : Else O w7 wr := HX.out.1.trans (Else.of_below HTb.out)
              have hqs : q1 = 1 + esz L := by rw [← HT.out.2.1, List.take_length]
              have hC0 := HC9.out.1.keep (T := fun _ => False) ((Else.of_below HA.out.2.2.2).trans ((Else.of_below HI.out.2.2.1).trans (Else.of_below HTb.out))) fun _ _ h => h
              have hown := own_below HI.out.2.1 HTb.out
              have HFN := Lib.hid (finite3_any HBO.out.1 HBO.out.2 (HAN.out wr hE).1 (by have := HS.out.1; omega))
              have hx := (HAN.out wr hE).2
              have y0 : wr.cell? ⟨w6.heap.size, 0, none⟩ = some (.slice Am Q cm) := cell_of_row wr _ 0 _ _ (0, 0) hx
              have y1 : wr.cell? ⟨w6.heap.size, 1, none⟩ = some (.slice As Q cs) := cell_of_row wr _ 1 _ _ (0, 0) hx
              have HY := Lib.hid (And.intro hE (And.intro hqs (And.intro hC0 hown)))
              clear hE hqs hC0 hown hx hil hi HTb
              go_wp2_with fail
              refine HFN.out.mono ?_
              clear HFN
              rintro y wA ⟨⟨fb, rfl, hfb⟩, hbA⟩
              obtain rfl : fb = t := by
                rw [Bool.eq_iff_iff, hfb, H8.out.1, ← fin_colors HBO.out.1 HBO.out.2 HS.out.2.2.1]
                exact ⟨fun h => ⟨HBO.out.1.nc, h⟩, fun h => h.2⟩
              have hfin : fb = true ↔ FinC s.1 s.2 := by rw [H8.out.1]; exact ⟨fun h => h.2, fun h => ⟨HBO.out.1.nc, h⟩⟩
              have hkA : CsM O wA c s.1 s.2 st fs m := HY.out.2.2.1.keep (T := fun _ => False) (Else.of_below hbA) fun _ _ h => h
              have HFC := Lib.hid (finite_cs hkA (by have := HC9.out.2; omega) (by have := HS.out.1; omega) HS.out.2.1 HS.out.2.2.1)
              have HZ := Lib.hid (And.intro hfin (And.intro (HY.out.1.trans (Else.of_below hbA)) (own_below HY.out.2.2.2 hbA)))
              clear hfb hbA hfin hkA y0 y1
              cases fb with
              | false =>
                go_wp2_with fail
                refine HFC.out.mono ?_
                clear HFC
                rintro y wB ⟨b2, k2, rfl, hb2, hk2, hCB, hEB⟩
                rw [← HZ.out.1] at hb2
                obtain rfl : b2 = false := by simpa using hb2
                have HCC := Lib.hid (cyclic_cs hCB (by have := HC9.out.2; have := HS.out.1; omega) (by have := HS.out.1; omega) HS.out.2.1)
                have HZB := Lib.hid (And.intro (HZ.out.2.1.trans hEB) (own_else HZ.out.2.2 hEB fun k hk hO => by
                  have h1 := (H5.out.2.1 k hO).2
                  have h2 := (HI.out.2.1.lt k hk).1
                  have h3 := H7.out.2.2.2.2.2.size
                  have h4 := H9.out.2.2.1.size
                  have h5 := HA.out.2.2.2.size
                  omega))
                clear hb2 hk2 hCB hEB
                go_wp2_with fail
                refine HCC.out.mono ?_
                clear HCC
                rintro y wC ⟨bb, vC, k3, rfl, hoC, hbb, hk3, hCC, hEC⟩
                have hsame : (vsort s.1).filter bb = vl.filter bw := by rw [want_same HBO.out.1 hbb, HBW.out, HA.out.2.1]
                have hnone : vl.filter bw = [] ↔ FinC s.1 s.2 := by rw [← HBW.out, ← HA.out.2.1]; exact want_none HBO.out.1
                rw [hsame] at hoC
                obtain ⟨AC, cC, rfl, _, _⟩ := Un.own_form hoC
                have hownW := own_else HZB.out.2 hEC fun k hk hO => by
                  have h1 := (H5.out.2.1 k hO).2
                  have h2 := (HI.out.2.1.lt k hk).1
                  have h3 := H7.out.2.2.2.2.2.size
                  have h4 := H9.out.2.2.1.size
                  have h5 := HA.out.2.2.2.size
                  omega
                obtain ⟨ws, hws⟩ : ∃ ws, vl.filter bw = ws := ⟨_, rfl⟩
                have hqw := HI.out.2.2.2
                rw [hws] at hoC hownW hnone hqw ⊢
                have HIN := Lib.hid (rints_any ws ws _ _ wC (Rd.of_own hoC) (Rd.of_own hownW) (by rw [hqw]; omega) (by rw [hqw]; omega))
                have hq0 : qw ≠ 0 := by
                  have h : (false = true) ↔ ws = [] := by have h := HZ.out.1.trans hnone.symm; simpa using h
                  intro h0; have h1 := h.2 (List.eq_nil_of_length_eq_zero (by rw [hqw]; exact h0)); cases h1
                have hq40 : q ≤ 40 * q1 := by have h1 := H8.out.2.1; have h2 := HS.out.2.2.2.2; have h3 := HY.out.2.1; omega
                have HEC := Lib.hid ((HZB.out.1.trans hEC))
                clear hoC hbb hk3 hCC hEC hsame hnone hws hownW
                rw [hqw] at HIN ⊢
                have HQ := Lib.hid (And.intro hq0 hq40)
                clear hqw hq0 hq40
                go_wp2_with fail
                refine HIN.out.mono ?_
                clear HIN
                rintro y wD ⟨rfl, hbD⟩
                have HD2 := Lib.hid (HEC.out.trans (Else.of_below hbD))
                clear hbD
                have hrr : (ws == ws) = true := by simp
                rw [hrr]
                clear hrr
                have hz0 : ((qw : Int) == (0 : Int)) = false := by have a1 := HQ.out.1; simp; omega
                go_wp2_with fail
                all_goals first
                  | (exfalso; have a1 := HQ.out; omega)
                  | (refine (HAW.out wD).mono ?_
                     rintro e wE ⟨rfl, hbE⟩
                     have HE2 := Lib.hid ((H9.out.2.2.2 _ HD2.out).trans (hbE.mono (H9.out.2.2.2 _ HD2.out).size))
                     clear hbE
                     go_wp2_with fail
                     exact bodyPost_ret (results_tmp rfl _ _ _) rfl ⟨by first | rfl | (simp only [hz0]; rfl), HE2.out⟩)
              | true =>
                go_wp2_with fail
                refine HFC.out.mono ?_
                clear HFC
                rintro y wB ⟨b2, k2, rfl, hb2, hk2, hCB, hEB⟩
                rw [← HZ.out.1] at hb2
                obtain rfl : b2 = true := by simpa using hb2
                have HCC := Lib.hid (cyclic_cs hCB (by have := HC9.out.2; have := HS.out.1; omega) (by have := HS.out.1; omega) HS.out.2.1)
                have HZB := Lib.hid (And.intro (HZ.out.2.1.trans hEB) (own_else HZ.out.2.2 hEB fun k hk hO => by
                  have h1 := (H5.out.2.1 k hO).2
                  have h2 := (HI.out.2.1.lt k hk).1
                  have h3 := H7.out.2.2.2.2.2.size
                  have h4 := H9.out.2.2.1.size
                  have h5 := HA.out.2.2.2.size
                  omega))
                clear hb2 hk2 hCB hEB
                go_wp2_with fail
                refine HCC.out.mono ?_
                clear HCC
                rintro y wC ⟨bb, vC, k3, rfl, hoC, hbb, hk3, hCC, hEC⟩
                have hsame : (vsort s.1).filter bb = vl.filter bw := by rw [want_same HBO.out.1 hbb, HBW.out, HA.out.2.1]
                have hnone : vl.filter bw = [] ↔ FinC s.1 s.2 := by rw [← HBW.out, ← HA.out.2.1]; exact want_none HBO.out.1
                rw [hsame] at hoC
                obtain ⟨AC, cC, rfl, _, _⟩ := Un.own_form hoC
                have hownW := own_else HZB.out.2 hEC fun k hk hO => by
                  have h1 := (H5.out.2.1 k hO).2
                  have h2 := (HI.out.2.1.lt k hk).1
                  have h3 := H7.out.2.2.2.2.2.size
                  have h4 := H9.out.2.2.1.size
                  have h5 := HA.out.2.2.2.size
                  omega
                obtain ⟨ws, hws⟩ : ∃ ws, vl.filter bw = ws := ⟨_, rfl⟩
                have hqw := HI.out.2.2.2
                rw [hws] at hoC hownW hnone hqw ⊢
                have HIN := Lib.hid (rints_any ws ws _ _ wC (Rd.of_own hoC) (Rd.of_own hownW) (by rw [hqw]; omega) (by rw [hqw]; omega))
                have hq0 : qw = 0 := by
                  have h : (true = true) ↔ ws = [] := by have h := HZ.out.1.trans hnone.symm; simpa using h
                  have h1 := h.1 rfl; rw [h1] at hqw; exact hqw.symm
                have hq40 : q ≤ 40 * q1 := by have h1 := H8.out.2.1; have h2 := HS.out.2.2.2.2; have h3 := HY.out.2.1; omega
                have HEC := Lib.hid ((HZB.out.1.trans hEC))
                clear hoC hbb hk3 hCC hEC hsame hnone hws hownW
                rw [hqw] at HIN ⊢
                have HQ := Lib.hid (And.intro hq0 hq40)
                clear hqw hq0 hq40
                go_wp2_with fail
                refine HIN.out.mono ?_
                clear HIN
                rintro y wD ⟨rfl, hbD⟩
                have HD2 := Lib.hid (HEC.out.trans (Else.of_below hbD))
                clear hbD
                have hrr : (ws == ws) = true := by simp
                rw [hrr]
                clear hrr
                have hz0 : ((qw : Int) == (0 : Int)) = true := by have a1 := HQ.out.1; simp; omega
                go_wp2_with fail
                all_goals first
                  | (exfalso; have a1 := HQ.out; omega)
                  | (refine (HAW.out wD).mono ?_
                     rintro e wE ⟨rfl, hbE⟩
                     have HE2 := Lib.hid ((H9.out.2.2.2 _ HD2.out).trans (hbE.mono (H9.out.2.2.2 _ HD2.out).size))
                     clear hbE
                     go_wp2_with fail
                     exact bodyPost_ret (results_tmp rfl _ _ _) rfl ⟨by first | rfl | (simp only [hz0]; rfl), HE2.out⟩)
end Go.Proofs.YtojgiienohpaiaaGreat
