/- Texts of one proof, one behind the other. -/
import Derived.Test.YtbdckmnppeglfaaMgGraphKeeps34
/- GraphKeeps, walked. -/
namespace Go.Proofs.Ytbdckmnppeglfaa
open Go.RowKit Go.Shelf
set_option maxRecDepth 100000
/-- A row of numbers, beside what a graph turns. -/
theorem row_chg {B : Nat} {W W2 : World} {g mb : Nat} {vg vg' va : Value} {L : List Nd} {G : List Gn} {n : Nat} {xs : List Value} (hG : GrM B W g vg mb L G) (hrow : W.ownsRow B 3 1 va n xs) (hc : Chg W W2 g mb vg vg') : W2.ownsRow B 3 1 va n xs := by
  refine ⟨hrow.1, ?_⟩
  rcases hrow.2 with h' | ⟨b, cap, cur, hv, hb, hh, hr⟩
  · exact .inl h'
  · have hmo : ∃ es ck, W.heap[mb]? = some (Obj.map es ck) := by obtain ⟨_, _, _, ⟨es, ck, h, _⟩, _⟩ := hG.vars; exact ⟨es, ck, h⟩
    refine .inr ⟨b, cap, cur, hv, hb, (hc.block b (Array.getElem?_eq_some_iff.1 hh).1 (fun e => ?_) (fun e => ?_) (own_ne hG.row hh fun cs e => by injection e with _ e; revert e; decide)).trans hh, hr⟩
    · subst e; rw [hG.cell] at hh; injection hh with hh; injection hh with _ hh; revert hh; decide
    · subst e; obtain ⟨_, _, h'⟩ := hmo; rw [h'] at hh; cases hh
/-- What stands while others are added. -/
structure KpI (w : World) (B : Nat) (W : World) (g mb : Nat) (vg va : Value) (L : List Nd) (R : List Rn) (A : List Nat) : Prop where
  graph : GrM B W g vg mb L (R.map rG)
  row : W.ownsRow B 3 1 va A.length (nums A)
  below : Below B w W
theorem KpI.keep {w : World} {B : Nat} {W W' : World} {g mb : Nat} {vg va : Value} {L : List Nd} {R : List Rn} {A : List Nat} (h : KpI w B W g mb vg va L R A) (hB : B ≤ W.heap.size) (hb : Below W.heap.size W W') : KpI w B W' g mb vg va L R A :=
  ⟨h.graph.below hb, own_below h.row hb, h.below.trans (hb.mono hB)⟩
theorem KpI.chg {w : World} {B : Nat} {W W2 : World} {g mb : Nat} {vg vg' va : Value} {L L2 : List Nd} {R R2 : List Rn} {A : List Nat} (h : KpI w B W g mb vg va L R A) (hB : B ≤ W.heap.size) (hG2 : GrM B W2 g vg' mb L2 (R2.map rG)) (hc : Chg W W2 g mb vg vg') : KpI w B W2 g mb vg' va L2 R2 A := by
  have hge := h.graph.ge
  have hvg : ∀ b, vg.ownBlock = some b → B ≤ b := fun b hb => (h.graph.row.lt b hb).1
  exact ⟨hG2, row_chg h.graph h.row hc, h.below.trans ⟨hc.os, hc.tape, hc.output, hc.size, fun b hb => hc.block b (by omega) (by omega) (by omega) (fun e => by have := hvg b e; omega)⟩⟩
set_option maxHeartbeats 8000000 in
/-- From a world where both graphs stand. -/
theorem gkeeps_law (w : World) (F F2 : Fo) (v v2 : Value) (hF : TyV w.heap.size w F v) (hwf : F.wf) (hF2 : TyV w.heap.size w F2 v2) (hwf2 : F2.wf) :
    Calls Try.prog 5 #[v, v2] w fun e w' => e = .returned (.bool true) ∧ Below w.heap.size w w' := by
  have HGT := Lib.hid (great11_any w F v hF)
  have HF := Lib.hid hF
  have HWF := Lib.hid hwf
  have HF2 := Lib.hid hF2
  have HWF2 := Lib.hid hwf2
  obtain ⟨Av, cv, rfl⟩ := hF.slice
  obtain ⟨Av2, cv2, rfl⟩ := hF2.slice
  clear hF hwf hF2 hwf2
  go_enter Try.func5, Try.ntmps5
  go_wp2_with fail
  refine HGT.out.mono ?_
  rintro e w2 ⟨gb, rfl, hgb, hb2⟩
  have HB2 := Lib.hid hb2
  have HGB := Lib.hid hgb
  clear hb2 hgb HGT
  cases gb
  rotate_left
  · go_wp2_with fail
    refine (awake11 w2).mono ?_
    rintro e w3 ⟨rfl, hb3⟩
    go_wp2_with fail
    go_ret
    exact ⟨rfl, HB2.out.trans (hb3.mono HB2.out.size)⟩
  have HGT2 := Lib.hid (great11_any w2 F2 (.slice Av2 F2.len cv2) ((HF2.out.below HB2.out).keep HB2.out.size fun _ _ _ => rfl))
  go_wp2_with fail
  refine HGT2.out.mono ?_
  rintro e w3 ⟨gb2, rfl, hgb2, hb3⟩
  have HB3 := Lib.hid (HB2.out.trans (hb3.mono HB2.out.size))
  have HGB2 := Lib.hid hgb2
  clear hb3 hgb2 HGT2
  cases gb2
  rotate_left
  · go_wp2_with fail
    refine (awake11 w3).mono ?_
    rintro e w4 ⟨rfl, hb4⟩
    go_wp2_with fail
    go_ret
    exact ⟨rfl, HB3.out.trans (hb4.mono HB3.out.size)⟩
  have hlen : F.len ≤ 30 ∧ F.size ≤ 400 := by first | exact HGB.out rfl | exact HGB.out trivial
  have hlen2 : F2.len ≤ 30 ∧ F2.size ≤ 400 := by first | exact HGB2.out rfl | exact HGB2.out trivial
  have hboth := both_any w3 w.heap.size HB3.out.size F (.slice Av F.len cv) (HF.out.below HB3.out) HWF.out (by omega)
  have HBO := Lib.hid hboth
  have hlo := (TyV.list HF.out).lenOk
  have hlo2 := (TyV.list HF2.out).lenOk
  have HLO := Lib.hid (And.intro hlo hlo2)
  have hok := bAll_ok F ([], []) (BOk.nil []) hlo
  have hbl := (bAll_len F ([], []))
  have hsz := bAll_sizes F ([], [])
  obtain ⟨S, hS⟩ : ∃ S, bAll ([], []) F = S := ⟨_, rfl⟩
  rw [hS] at hok hbl hsz HBO
  obtain ⟨R, A⟩ := S
  dsimp only [List.length_nil] at hok hbl HBO hsz
  have hok2 : BOk (R, []) := ⟨hok.ri, hok.nv, hok.gi⟩
  have HS := Lib.hid hS
  have HOK := Lib.hid (And.intro hok (And.intro hok2 hsz))
  have hRl : R.length ≤ 400 := by omega
  have hAl : A.length ≤ 400 := by have := F.len_le_size; omega
  clear hboth hlo hlo2 hok hok2 hbl hS hsz
  go_wp2_with fail
  refine HBO.out.mono ?_
  rintro e w4 ⟨g, mb, vg, vm, va, L, M, rfl, hI, hGI⟩
  obtain ⟨Am, cm, rfl⟩ := hI.model.row.1.form
  obtain ⟨Aa, ca, rfl, -, -⟩ := own_form hI.row
  have HK := Lib.hid (show KpI w3 w3.heap.size w4 g mb vg (.slice Aa A.length ca) L R A from ⟨hI.graph, hI.row, hI.below⟩)
  have HLN := Lib.hid (len_graph w4 w3.heap.size g mb vg L (R.map rG) hI.graph)
  have hz4 := hI.below.size
  clear hI hGI
  go_wp2_with fail
  refine HLN.out.mono ?_
  rintro e w5 ⟨rfl, rfl⟩
  have hml : ((R.map rG).length : Int) = (R.length : Int) := by simp
  rw [hml]
  clear HLN HBO hml
  go_wp2_with fail
  go_loopw [10] (fun t wr => ∃ (j : Nat) (vg : Value) (L : List Nd), j ≤ F2.len ∧ t = .int .i64 j ∧ KpI w3 w3.heap.size wr g mb vg (.slice Aa A.length ca) L (bAll (R, []) (F2.take j)).1 A ∧ w5.heap.size ≤ wr.heap.size) (fun t _ => F2.len - (intOf t).toNat)
  case atStart => exact ⟨0, vg, L, Nat.zero_le _, rfl, by rw [Fo.take_zero]; exact HK.out, Nat.le_refl _⟩
  case round =>
    obtain ⟨j, vg, L, hj, rfl, hK, hz⟩ := hrel
    by_cases hjl : j < F2.len
    · obtain ⟨b, off, cap, hv, _, _, hlt, hC⟩ := HF2.out.form (by omega)
      injection hv with hA _ hcc
      subst hA; subst hcc
      obtain ⟨d0, d1, d2, hch⟩ := tyC_at hC j hjl
      have hbb := HB3.out.trans (hK.below.mono HB3.out.size)
      have c0 := (hbb.cell (p := ⟨b, off + j * 3, none⟩) hlt).trans d0
      have c1 := (hbb.cell (p := ⟨b, off + j * 3 + 1, none⟩) hlt).trans d1
      have c2 := (hbb.cell (p := ⟨b, off + j * 3 + 2, none⟩) hlt).trans d2
      have hch' : TyV w.heap.size wr (F2.at_ j).2.2.2 (slv (F2.at_ j).2.2.1) := hch.below hbb
      have hst := F2.size_take_step j hjl
      have hle := F2.size_take_le (j + 1)
      have hbl := bAll_len (F2.take j) (R, [])
      have hbs := bAll_step F2 j hjl (R, [])
      have hlk := HLO.out.2.at j hjl
      have hwk := wf_at HWF2.out j hjl
      have hok := bAll_ok (F2.take j) (R, []) HOK.out.2.1 (HLO.out.2.take j)
      have hbz := hbb.size
      clear d0 d1 d2 hC hch
      generalize bAll (R, []) (F2.take j) = S at *
      obtain ⟨R2, A2⟩ := S
      generalize F2.at_ j = p at *
      obtain ⟨pk, pn, ⟨p1, p2, p3⟩, pf⟩ := p
      dsimp only [slv, List.length_nil] at c0 c1 c2 hch' hst hbl hlk hwk hbs hK hok ⊢
      obtain ⟨ar, har⟩ : ∃ ar, allAlone (Fo.cons pk pn (p1, p2, p3) pf .nil).pre = ar := ⟨_, rfl⟩
      have hwz : w.heap.size ≤ wr.heap.size := hbz
      have hw3z := hK.below.size
      have HK := Lib.hid hK
      have HBS := Lib.hid hbs
      cases ar
      · have hadd := add_wrong wr g w.heap.size hwz pk pn (p1, p2, p3) pf hch' (by omega) har
        unfold tyVal at hadd
        dsimp only [slv] at hadd
        have HAD := Lib.hid hadd
        have HAR := Lib.hid har
        clear hadd har hK hbs hch' hbb hst hle hbl hwk hlk hok
        go_wp2_with fail
        refine HAD.out.mono ?_
        rintro e w6 ⟨rfl, hb6⟩
        have HK6 := Lib.hid (HK.out.keep hw3z hb6)
        have hz6 := hb6.size
        clear c0 c1 c2 hb6
        go_wp2_with fail
        go_roundw
        case rel =>
          have h1 := HBS.out
          rw [bOne, if_neg (by rw [HAR.out]; simp)] at h1
          exact ⟨j + 1, vg, L, by omega, by go_num, by rw [h1]; exact HK6.out, by omega⟩
        case measure => simp [intOf]; omega
      · have hadd := add_graph wr w3.heap.size g mb vg L (R2.map rG) hK.graph hw3z hok.gi w.heap.size hwz pk pn (p1, p2, p3) pf hch' hwk (by rw [List.length_map]; omega) har
        have hvk : Vok (Fo.cons pk pn (p1, p2, p3) pf .nil) := vok_of har ⟨hlk.1, hlk.2, trivial⟩
        obtain ⟨q1, q2, q3⟩ := radd1_G R2 pk pn (p1, p2, p3) pf hok.gi hvk
        rw [← q1, ← q2] at hadd
        have h1 := hbs
        rw [bOne, if_pos har] at h1
        dsimp only at h1
        unfold tyVal at hadd
        dsimp only [slv] at hadd
        have HAD := Lib.hid hadd
        have HH1 := Lib.hid h1
        clear hadd har hK hbs hch' hbb hst hle hbl hwk hlk hok h1 q1 q2 q3 hvk
        go_wp2_with fail
        refine HAD.out.mono ?_
        rintro e w6 ⟨vg', E, rfl, hG6, hc6, -⟩
        have HK6 := Lib.hid (HK.out.chg hw3z hG6 hc6)
        have hz6 := hc6.size
        clear c0 c1 c2 hG6 hc6
        go_wp2_with fail
        go_roundw
        case rel => exact ⟨j + 1, vg', L ++ E, by omega, by go_num, by rw [HH1.out]; exact HK6.out, by omega⟩
        case measure => simp [intOf]; omega
    · obtain rfl : j = F2.len := by omega
      rw [Fo.take_len] at hK
      have hok2 := bAll_ok F2 (R, []) HOK.out.2.1 HLO.out.2
      obtain ⟨⟨E2, hE2⟩, -⟩ := bAll_ext F2 (R, []) HOK.out.2.1 HLO.out.2
      have hl2 := (bAll_len F2 (R, [])).1
      have hs2 := bAll_sizes F2 (R, [])
      have hri := hok2.ri
      generalize (bAll (R, []) F2).1 = R2 at *
      dsimp only at hE2 hl2 hs2
      have hsz2 : ∀ x ∈ R2, 1 + x.2.2.2.1.size ≤ 400 := fun x hx => by
        rcases hs2 x hx with h | h
        · rcases HOK.out.2.2 x h with h | h
          · cases h
          · omega
        · omega
      have HRI := Lib.hid (And.intro hri (And.intro hE2 hsz2))
      have HKK := Lib.hid hK
      have hw3z := hK.below.size
      have hbw := HB3.out.trans (hK.below.mono HB3.out.size)
      have HBW := Lib.hid hbw
      clear hok2 hE2 hs2 hsz2 hri hK hbw
      generalize wr = wo at *
      go_wp2_with fail
      go_loopw [11, 12] (fun t11 t12 WW => ∃ i : Nat, i ≤ F.len ∧ t12 = .int .i64 i ∧ t11 = .int .i64 ((bAll ([], []) (F.take i)).2.length : Nat) ∧ Below wo.heap.size wo WW) (fun _ t _ => F.len - (intOf t).toNat)
      case atStart => exact ⟨0, Nat.zero_le _, rfl, by rw [Fo.take_zero]; rfl, Below.refl _ _⟩
      case round =>
        obtain ⟨i, hi, rfl, rfl, hb⟩ := hrel
        obtain ⟨kk, hkk⟩ : ∃ kk, (bAll ([], []) (F.take i)).2.length = kk := ⟨_, rfl⟩
        rw [hkk]
        have HKE := Lib.hid hkk
        have HB := Lib.hid hb
        have hz := hb.size
        by_cases hil : i < F.len
        · obtain ⟨b, off, cap, hv, _, _, hlt, hC⟩ := HF.out.form (by omega)
          injection hv with hA _ hcc
          subst hA; subst hcc
          obtain ⟨d0, d1, d2, hch⟩ := tyC_at hC i hil
          have hbb := HBW.out.trans (hb.mono HBW.out.size)
          have c0 := (hbb.cell (p := ⟨b, off + i * 3, none⟩) hlt).trans d0
          have c1 := (hbb.cell (p := ⟨b, off + i * 3 + 1, none⟩) hlt).trans d1
          have c2 := (hbb.cell (p := ⟨b, off + i * 3 + 2, none⟩) hlt).trans d2
          have hch' : TyV w.heap.size wr (F.at_ i).2.2.2 (slv (F.at_ i).2.2.1) := hch.below hbb
          have hst := F.size_take_step i hil
          have hle := F.size_take_le (i + 1)
          have hlk := HLO.out.1.at i hil
          have hbt := bAll_at F HLO.out.1 ([], []) (BOk.nil []) i hil ⟨hlk.1, hlk.2, trivial⟩
          have hbn := bAll_not F ([], []) i hil
          rw [hkk] at hbt hbn
          rw [HS.out] at hbt
          have hbz := hbb.size
          clear d0 d1 d2 hC hch hkk hb
          generalize F.at_ i = p at *
          obtain ⟨pk, pn, ⟨p1, p2, p3⟩, pf⟩ := p
          dsimp only [slv] at c0 c1 c2 hch' hst hlk hbt hbn
          have hrr := rright_any _ pf pk pn (.slice p1 p2 p3) wr (Nat.lt_succ_self _) (by omega) (hch'.keep hbz fun _ _ _ => rfl)
          obtain ⟨ar, har⟩ : ∃ ar, allAlone (Fo.cons pk pn (p1, p2, p3) pf .nil).pre = ar := ⟨_, rfl⟩
          have hal : (alone pk pn pf.len && allAlone pf.pre) = ar := by
            rw [← har]
            have e : p2 = pf.len := hlk.1
            simp [Fo.pre, allAlone, e]
          rw [hal] at hrr
          rw [har] at hbt hbn
          unfold tyVal at hrr
          have HRR := Lib.hid hrr
          have HCH := Lib.hid hch'
          have hpf : pf.size ≤ 400 := by omega
          clear hrr hch' hal har hlk hst hle
          cases ar
          · have HBN := Lib.hid (hbn rfl)
            clear hbt hbn
            go_wp2_with fail
            refine HRR.out.mono ?_
            rintro e w6 ⟨rfl, hb6⟩
            have HB6 := Lib.hid (HB.out.trans (hb6.mono hz))
            clear c0 c1 c2 hb6 hbb
            go_wp2_with fail
            go_roundw
            case rel => exact ⟨i + 1, by omega, by go_num, by rw [HBN.out], HB6.out⟩
            case measure => simp [intOf]; omega
          · obtain ⟨pp, y, hp1, hp2, hp3, hp4⟩ := hbt rfl
            have HP4 := Lib.hid hp4
            clear hbt hbn hp4
            go_wp2_with fail
            refine HRR.out.mono ?_
            rintro e w6 ⟨rfl, hb6⟩
            have hb06 := hb6.trans (Below.refl _ _)
            have hbo6 := HB.out.trans (hb6.mono hz)
            have hK6 := HKK.out.keep hw3z hbo6
            have hkA : kk < A.length := (List.getElem?_eq_some_iff.1 hp1).1
            obtain ⟨ab, ac, hav, _, hal⟩ := own_shape hK6.row (by omega)
            injection hav with hav1 _ hav3
            subst hav1; subst hav3
            have xk : w6.cell? ⟨ab, kk, none⟩ = some (.int .i64 (pp : Nat)) := by
              have h := hK6.row.cellAt (g := ab) kk (by omega)
              rw [h]
              simp [nums, ints, toI, hp1]
            have hyR : R2[pp]? = some y := by rw [HRI.out.2.1]; exact get_app hp2 _
            have hy4 := HRI.out.2.2 y (List.mem_of_getElem? hyR)
            have hty := type_in w6 w3.heap.size g mb vg L R2 hK6.graph HRI.out.1 pp y hyR (by omega) 400
            have HTY := Lib.hid hty
            have hy9 : (1 + (y.2.2.2.1.size : Int)) ≤ 400 := by omega
            obtain ⟨n1, n2, n3⟩ := hp3
            have e0 := (hb6.cell (p := ⟨b, off + i * 3, none⟩) (by simp only; omega)).trans c0
            have e1 := (hb6.cell (p := ⟨b, off + i * 3 + 1, none⟩) (by simp only; omega)).trans c1
            have e2 := (hb6.cell (p := ⟨b, off + i * 3 + 2, none⟩) (by simp only; omega)).trans c2
            have HT6 := Lib.hid (HCH.out.below (hb6.mono hbz))
            have HB6 := Lib.hid hbo6
            have hz6 := hb6.size
            clear hty hp1 hp2 hyR hy4 hK6 hbo6 hb06 hb6 c0 c1 c2 hbb
            go_wp2_with fail
            refine HTY.out.mono ?_
            rintro e w7 ⟨hb7, h7⟩
            rw [if_pos hy9] at h7
            obtain ⟨⟨u1, u2, u3⟩, F7, rfl, hF7, hT7⟩ := h7
            rw [n1, n2]
            obtain ⟨w8, hw8⟩ : ∃ w8, w7.alloc (.cells #[.int .i64 pk, .int .i64 pn, .slice u1 u2 u3] 38) = w8 := ⟨_, rfl⟩
            have hb8 : Below w7.heap.size w7 w8 := by rw [← hw8]; exact (Below.refl _ _).alloc (Nat.le_refl _) _
            have hx8 : w8.heap[w7.heap.size]? = some (Obj.cells #[.int .i64 pk, .int .i64 pn, .slice u1 u2 u3] 38) := by rw [← hw8]; exact heap_alloc_new w7 _
            have hr8 := hb7.trans (hb8.mono hb7.size)
            have hlt8 : w7.heap.size < w8.heap.size := (Array.getElem?_eq_some_iff.1 hx8).1
            have d0 : w8.cell? ⟨w7.heap.size, 0, none⟩ = some (.int .i64 pk) := cell_of_row w8 _ 0 _ _ (0, 0) hx8
            have d1 : w8.cell? ⟨w7.heap.size, 1, none⟩ = some (.int .i64 pn) := cell_of_row w8 _ 1 _ _ (0, 0) hx8
            have d2 : w8.cell? ⟨w7.heap.size, 2, none⟩ = some (.slice u1 u2 u3) := cell_of_row w8 _ 2 _ _ (0, 0) hx8
            have f0 := (hr8.cell (p := ⟨b, off + i * 3, none⟩) (by simp only; omega)).trans e0
            have f1 := (hr8.cell (p := ⟨b, off + i * 3 + 1, none⟩) (by simp only; omega)).trans e1
            have f2 := (hr8.cell (p := ⟨b, off + i * 3 + 2, none⟩) (by simp only; omega)).trans e2
            have hb8' : b < w8.heap.size := by have := hr8.size; omega
            have hFs : F7.size = pf.size := by rw [← Fo.pure_size, hF7, n3, Fo.pure_size]
            have hT8 : TyV w8.heap.size w8 F7 (slv (u1, u2, u3)) := (hT7.below hb8).keep hb8.size fun _ _ _ => rfl
            have hTf8 : TyV w8.heap.size w8 pf (slv (p1, p2, p3)) := (HT6.out.below (hr8.mono (by omega))).keep (by have := hr8.size; omega) fun _ _ _ => rfl
            have hsm : ∀ W, Below w8.heap.size w8 W → Calls Try.prog 23 #[tyVal pk pn (slv (u1, u2, u3)), tyVal pk pn (slv (p1, p2, p3))] W fun e w' => e = .returned (.bool true) ∧ Below w8.heap.size w8 w' := fun W hW => by
              have h := rsame_any _ F7 pf pk pn pk pn (slv (u1, u2, u3)) (slv (p1, p2, p3)) W (Nat.lt_succ_self _) (by omega) (by omega) ((hT8.below hW).keep hW.size fun _ _ _ => rfl) ((hTf8.below hW).keep hW.size fun _ _ _ => rfl)
              rw [show (pk == pk && pn == pn && F7.same pf) = true by simp [(Fo.same_iff _ _).2 (hF7.trans n3)]] at h
              exact h.mono fun e w' ⟨h1, h2⟩ => ⟨h1, hW.trans (h2.mono hW.size)⟩
            have HKC := Lib.hid (show ∀ W, Below w8.heap.size w8 W → W.cell? ⟨w7.heap.size, 0, none⟩ = some (.int .i64 pk) ∧ W.cell? ⟨w7.heap.size, 1, none⟩ = some (.int .i64 pn) ∧ W.cell? ⟨w7.heap.size, 2, none⟩ = some (.slice u1 u2 u3) ∧
                W.cell? ⟨b, off + i * 3, none⟩ = some (.int .i64 pk) ∧ W.cell? ⟨b, off + i * 3 + 1, none⟩ = some (.int .i64 pn) ∧ W.cell? ⟨b, off + i * 3 + 2, none⟩ = some (.slice p1 p2 p3) from fun W hW =>
              ⟨(hW.cell (p := ⟨w7.heap.size, 0, none⟩) hlt8).trans d0, (hW.cell (p := ⟨w7.heap.size, 1, none⟩) hlt8).trans d1, (hW.cell (p := ⟨w7.heap.size, 2, none⟩) hlt8).trans d2, (hW.cell (p := ⟨b, off + i * 3, none⟩) hb8').trans f0, (hW.cell (p := ⟨b, off + i * 3 + 1, none⟩) hb8').trans f1, (hW.cell (p := ⟨b, off + i * 3 + 2, none⟩) hb8').trans f2⟩)
            have HSM := Lib.hid hsm
            have HR8 := Lib.hid (HB6.out.trans (hr8.mono HB6.out.size))
            have HW8 := Lib.hid hw8
            clear hsm hF7 hT7 hT8 hTf8 hFs hr8 hb8 hx8 hb7 hw8 d0 d1 d2 e0 e1 e2 f0 f1 f2 hy9 n1 n2 n3 xk
            dsimp only [tyVal, slv] at HKC HSM ⊢
            go_wp2_with fail
            rw [HW8.out]
            obtain ⟨k0, k1, k2, k3, k4, k5⟩ := HKC.out w8 (Below.refl _ _)
            go_region_held3 (fun W => W.cell? ⟨w7.heap.size, 0, none⟩ = some (.int .i64 pk) ∧ W.cell? ⟨w7.heap.size, 1, none⟩ = some (.int .i64 pn) ∧ W.cell? ⟨w7.heap.size, 2, none⟩ = some (.slice u1 u2 u3) ∧
                W.cell? ⟨b, off + i * 3, none⟩ = some (.int .i64 pk) ∧ W.cell? ⟨b, off + i * 3 + 1, none⟩ = some (.int .i64 pn) ∧ W.cell? ⟨b, off + i * 3 + 2, none⟩ = some (.slice p1 p2 p3))
              (first | exact ⟨k0, k1, k2, k3, k4, k5⟩ | exact kx1)
              (first
                | (go_at_call 23; with_reducible refine (HSM.out _ (Below.refl _ _).drew).mono ?_; rintro e y1 ⟨rfl, hx1⟩; have kx1 := HKC.out _ hx1))
            have HX := Lib.hid hx1
            clear hx1 k0 k1 k2 k3 k4 k5 kx1
            go_wp2_with fail
            go_roundw
            case rel => exact ⟨i + 1, by omega, by go_num, by rw [HP4.out]; go_num, HR8.out.trans (HX.out.mono HR8.out.size)⟩
            case measure => simp [intOf]; omega
        · clear hkk hb
          generalize wr = wq at *
          go_wp2_with fail
          go_loopw [15] (fun t WW => ∃ i : Nat, i ≤ R2.length ∧ t = .int .i64 i ∧ Below wo.heap.size wo WW) (fun t _ => R2.length - (intOf t).toNat)
          case atStart => exact ⟨0, Nat.zero_le _, rfl, HB.out⟩
          case round =>
            obtain ⟨i3, hi3, rfl, hb9⟩ := hrel
            have hK9 := HKK.out.keep hw3z hb9
            have HLN := Lib.hid (len_graph wr w3.heap.size g mb vg L (R2.map rG) hK9.graph)
            have hml : ((R2.map rG).length : Int) = (R2.length : Int) := by simp
            rw [hml] at HLN
            have HK9 := Lib.hid hK9
            have HB9 := Lib.hid hb9
            have hz9 := hb9.size
            clear hK9 hb9 hml
            by_cases h3l : i3 < R2.length
            · obtain ⟨x, hx⟩ : ∃ x, R2[i3]? = some x := ⟨_, List.getElem?_eq_getElem h3l⟩
              obtain ⟨r1, r2⟩ := HRI.out.1 i3 x hx
              have hx4 := HRI.out.2.2 x (List.mem_of_getElem? hx)
              have hxl := x.2.2.2.1.len_le_size
              have hiG : i3 < (R2.map rG).length := by simpa using h3l
              have hGx : (R2.map rG)[i3]'hiG = rG x := by simp [(List.getElem?_eq_some_iff.1 hx).2]
              have hpa := parts_in wr w3.heap.size g mb vg L (R2.map rG) HK9.out.graph i3 hiG (by rw [hGx]; show x.2.2.2.2.length ≤ _; omega)
              rw [hGx] at hpa
              dsimp only [rG] at hpa
              have HPA := Lib.hid hpa
              have hlt : ∀ j p, x.2.2.2.2[j]? = some p → p < i3 := fun j p h => by
                obtain ⟨p', _, a1, a2, _⟩ := r2 j (by have := (List.getElem?_eq_some_iff.1 h).1; omega)
                rw [h] at a1
                injection a1 with a1
                omega
              have HLT := Lib.hid hlt
              obtain ⟨P, hP⟩ : ∃ P, x.2.2.2.2 = P := ⟨_, rfl⟩
              rw [hP] at HPA HLT r1
              have hPl : P.length ≤ 400 := by omega
              clear hpa hlt r1 r2 hx hx4 hxl hiG hGx hP
              go_wp2_with fail
              refine HLN.out.mono ?_
              rintro e w10 ⟨rfl, rfl⟩
              go_wp2_with fail
              refine HPA.out.mono ?_
              rintro e w11 ⟨v11, rfl, own11, hb11⟩
              obtain ⟨A11, c11, rfl, -, -⟩ := own_form own11
              have HO11 := Lib.hid own11
              have HB11 := Lib.hid (HB9.out.trans (hb11.mono hz9))
              clear own11 hb11
              go_wp2_with fail
              go_loopw [17] (fun t WW => ∃ j : Nat, j ≤ P.length ∧ t = .int .i64 j ∧ Below w11.heap.size w11 WW) (fun t _ => P.length - (intOf t).toNat)
              case atStart => exact ⟨0, Nat.zero_le _, rfl, Below.refl _ _⟩
              case round =>
                obtain ⟨j4, hj4, rfl, hb12⟩ := hrel
                have HB12 := Lib.hid hb12
                clear hb12
                by_cases h4l : j4 < P.length
                · obtain ⟨pj, hpj⟩ : ∃ pj, P[j4]? = some pj := ⟨_, List.getElem?_eq_getElem h4l⟩
                  have hp3 := HLT.out j4 pj hpj
                  obtain ⟨ab, ac, hav, _, hal⟩ := own_shape HO11.out (by omega)
                  injection hav with hav1 _ hav3
                  subst hav1; subst hav3
                  have xj : wr.cell? ⟨ab, j4, none⟩ = some (.int .i64 (pj : Nat)) := by
                    have h := HO11.out.cellAt (g := ab) j4 (by omega)
                    rw [HB12.out.cell (p := ⟨ab, j4, none⟩) hal, h]
                    simp [nums, ints, toI, hpj]
                  have f1 : decide ((pj : Int) < 0) = false := by simp
                  have f2 : decide ((i3 : Int) ≤ (pj : Int)) = false := by simp; omega
                  clear hpj
                  go_wp2_with fail
                  go_roundw
                  case rel => exact ⟨j4 + 1, by omega, by go_num, HB12.out⟩
                  case measure => simp [intOf]; omega
                · go_wp2_with fail
                  go_roundw
                  case rel => exact ⟨i3 + 1, by omega, by go_num, HB11.out.trans (HB12.out.mono HB11.out.size)⟩
                  case measure => simp [intOf]; omega
            · obtain rfl : i3 = R2.length := by omega
              have hRR : R.length ≤ R2.length := by rw [HRI.out.2.1]; simp
              have f1 : decide ((R.length : Int) ≤ (R2.length : Int)) = true := by simpa using hRR
              go_wp2_with fail
              refine HLN.out.mono ?_
              rintro e w10 ⟨rfl, rfl⟩
              go_wp2_with fail
              refine (len_graph _ w3.heap.size g mb vg L (R2.map rG) HK9.out.graph).mono ?_
              rintro e w10 ⟨rfl, rfl⟩
              have hml : ((R2.map rG).length : Int) = (R2.length : Int) := by simp
              rw [hml]
              go_wp2_with fail
              refine (awake11 _).mono ?_
              rintro e w11 ⟨rfl, hb11⟩
              have HB11 := Lib.hid (HBW.out.trans ((HB9.out.trans (hb11.mono hz9)).mono HBW.out.size))
              clear hb11
              go_wp2_with fail
              go_ret
              exact ⟨rfl, HB11.out⟩
end Go.Proofs.Ytbdckmnppeglfaa
