/- Texts of one proof, one behind the other. -/
import Derived.Test.YtbdckmnppeglfaaMgGraphAdds29
import Derived.Test.YtbdckmnppeglfaaMgGraphAdds14
import Derived.Test.YtbdckmnppeglfaaMgGraphAdds6
import Derived.Test.YtbdckmnppeglfaaMgGraphAdds9
/- graph's laws: both, walked. -/
namespace Go.Proofs.Ytbdckmnppeglfaa
open Go.RowKit Go.Shelf
attribute [local go_sem ↓] builtin_app
set_option maxRecDepth 100000
theorem results_tmp4 {fn : Func} {p q r s : Tmp} (h : fn.results = #[.tmp p, .tmp q, .tmp r, .tmp s]) (tmps : Array Value) (P : Program) (w : World) : (results fn tmps).run P w = .ok (.tuple #[tmps.getD p undef, tmps.getD q undef, tmps.getD r undef, tmps.getD s undef]) w := by
  simp [results, h]
theorem LenOk.at {F : Fo} (h : LenOk F) (j : Nat) (hj : j < F.len) : (F.at_ j).2.2.1.2.1 = (F.at_ j).2.2.2.len ∧ LenOk (F.at_ j).2.2.2 := by
  induction F generalizing j with
  | nil => simp [Fo.len] at hj
  | cons k n u ps r _ ih =>
    cases j with
    | zero => exact ⟨h.1, h.2.1⟩
    | succ j => exact ih h.2.2 j (by simp only [Fo.len] at hj; omega)
theorem wf_at {F : Fo} (h : F.wf) (j : Nat) (hj : j < F.len) : (Fo.cons (F.at_ j).1 (F.at_ j).2.1 (F.at_ j).2.2.1 (F.at_ j).2.2.2 .nil).wf := by
  induction F generalizing j with
  | nil => simp [Fo.len] at hj
  | cons k n u ps r _ ih =>
    cases j with
    | zero => exact ⟨h.1, h.2.1, trivial⟩
    | succ j => exact ih h.2.2 j (by simp only [Fo.len] at hj; omega)
/-- What both gives. -/
def BothIs (w : World) (BT : Nat) (R : List Rn) (A : List Nat) (e : Ending) (W : World) : Prop :=
  ∃ (g mb : Nat) (vg vm va : Value) (L : List Nd) (M : List Rm), e = .returned (.tuple #[.pointer (some ⟨g, 0, none⟩), vm, va, .bool true]) ∧ BoI w BT W g mb vg vm va L M R A ∧ GI (R.map rG)
set_option maxHeartbeats 8000000 in
theorem both_any (w : World) (BT : Nat) (hBT : BT ≤ w.heap.size) (F : Fo) (v : Value) (hF : TyV BT w F v) (hwf : F.wf) (hs : F.size ≤ 10000) :
    Calls Try.prog 12 #[v] w (BothIs w BT (bAll ([], []) F).1 (bAll ([], []) F).2) := by
  obtain ⟨A0, c, rfl⟩ := hF.slice
  have hll := F.len_le_size
  have hnew := new_graph w
  have H := Lib.hid hF
  have HN := Lib.hid hnew
  have HWF := Lib.hid hwf
  have HLO := Lib.hid ((TyV.list hF).lenOk)
  clear hF hnew hwf
  go_enter Try.func12, Try.ntmps12
  go_wp2_with fail
  refine HN.out.mono ?_
  rintro e w1 ⟨g, mb, rfl, hG, hb1⟩
  have HI := Lib.hid (BoI.start (BT := BT) hG hb1)
  clear hG hb1 HN
  go_wp2_with fail
  go_loopw [7, 8, 9] (fun t7 t8 t9 wr => ∃ (j : Nat) (vg : Value) (L : List Nd) (M : List Rm), j ≤ F.len ∧ t9 = .int .i64 j ∧ BoI w BT wr g mb vg t7 t8 L M (bAll ([], []) (F.take j)).1 (bAll ([], []) (F.take j)).2 ∧ GI ((bAll ([], []) (F.take j)).1.map rG)) (fun _ _ t _ => F.len - (intOf t).toNat)
  case atStart => exact ⟨0, _, _, _, Nat.zero_le _, rfl, by rw [Fo.take_zero]; exact HI.out, by rw [Fo.take_zero]; intro x hx; cases hx⟩
  case round =>
    obtain ⟨j, vg, L, M, hj, rfl, hI, hGI⟩ := hrel
    obtain ⟨A1, c1', rfl⟩ := hI.model.row.1.form
    obtain ⟨A2, c2', rfl, _, _⟩ := own_form hI.row
    by_cases hjl : j < F.len
    · obtain ⟨b, off, cap, hv, _, _, hlt, hC⟩ := H.out.form (by omega)
      injection hv with hA _ hcc
      subst hA; subst hcc
      obtain ⟨d0, d1, d2, hch⟩ := tyC_at hC j hjl
      have hbb := hI.below
      have hltw : b < w.heap.size := Nat.lt_of_lt_of_le hlt hBT
      have c0 := (hbb.cell (p := ⟨b, off + j * 3, none⟩) hltw).trans d0
      have c1 := (hbb.cell (p := ⟨b, off + j * 3 + 1, none⟩) hltw).trans d1
      have c2 := (hbb.cell (p := ⟨b, off + j * 3 + 2, none⟩) hltw).trans d2
      have hch' : TyV BT wr (F.at_ j).2.2.2 (slv (F.at_ j).2.2.1) := hch.below (hbb.mono hBT)
      have hst := F.size_take_step j hjl
      have hle := F.size_take_le (j + 1)
      have hbl := bAll_len (F.take j) ([], [])
      have hbs := bAll_step F j hjl ([], [])
      have hlk := HLO.out.at j hjl
      have hwk := wf_at HWF.out j hjl
      have hltk := (F.take j).len_le_size
      clear d0 d1 d2 hC hch
      generalize bAll ([], []) (F.take j) = S at *
      obtain ⟨R, A⟩ := S
      generalize F.at_ j = p at *
      obtain ⟨pk, pn, ⟨p1, p2, p3⟩, pf⟩ := p
      dsimp only [slv, List.length_nil] at c0 c1 c2 hch' hst hbl hlk hwk hbs hI hGI ⊢
      have hz := hbb.size
      have hpf : pf.size ≤ 10000 := by omega
      obtain ⟨ar, har⟩ : ∃ ar, allAlone (Fo.cons pk pn (p1, p2, p3) pf .nil).pre = ar := ⟨_, rfl⟩
      have hge := hI.graph.ge
      have hGl : (R.map rG).length = R.length := by simp
      have hR9 : R.length ≤ 10000 := by omega
      have hA9 : A.length ≤ 10000 := by omega
      have hrr := fun (W : World) (hW : Below BT wr W) => rright_any _ pf pk pn (.slice p1 p2 p3) W (Nat.lt_succ_self _) (by omega) ((hch'.below hW).keep (Nat.le_trans hBT (Nat.le_trans hz hW.size)) fun _ _ _ => rfl)
      have hal : (alone pk pn pf.len && allAlone pf.pre) = ar := by
        rw [← har]
        have e : p2 = pf.len := hlk.1
        simp [Fo.pre, allAlone, e]
      rw [hal] at hrr
      have HRR := Lib.hid hrr
      have HII := Lib.hid hI
      have HGI := Lib.hid hGI
      have HBS := Lib.hid hbs
      have HLK := Lib.hid hlk
      cases ar
      · have hadd := add_wrong wr g BT (Nat.le_trans hBT hz) pk pn (p1, p2, p3) pf hch' (by omega) har
        unfold tyVal at hadd
        dsimp only [slv] at hadd
        have HAD := Lib.hid hadd
        have HAR := Lib.hid har
        clear hadd har hrr hI hGI hbs hlk hal hch' hbb hst hle hbl hwk
        go_wp2_with fail
        refine HAD.out.mono ?_
        rintro e w2 ⟨rfl, hb2⟩
        have y0 : w2.cell? ⟨b, off + j * 3, none⟩ = some (.int .i64 pk) := (hb2.cell (p := ⟨b, off + j * 3, none⟩) (by simp only; omega)).trans c0
        have y1 : w2.cell? ⟨b, off + j * 3 + 1, none⟩ = some (.int .i64 pn) := (hb2.cell (p := ⟨b, off + j * 3 + 1, none⟩) (by simp only; omega)).trans c1
        have y2 : w2.cell? ⟨b, off + j * 3 + 2, none⟩ = some (.slice p1 p2 p3) := (hb2.cell (p := ⟨b, off + j * 3 + 2, none⟩) (by simp only; omega)).trans c2
        have hcall := HRR.out w2 (hb2.mono (Nat.le_trans hBT hz))
        unfold tyVal at hcall
        have HC := Lib.hid hcall
        have HB2 := Lib.hid hb2
        clear c0 c1 c2 hb2 hcall
        go_wp2_with fail
        refine HC.out.mono ?_
        rintro e w3 ⟨rfl, hb3⟩
        have HI3 := Lib.hid (HII.out.keep hBT (HB2.out.trans (hb3.mono HB2.out.size)))
        clear y0 y1 y2 hb3
        go_wp2_with fail
        go_roundw
        case rel =>
          have h1 := HBS.out
          rw [bOne, if_neg (by rw [HAR.out]; simp)] at h1
          exact ⟨j + 1, vg, L, M, by omega, by go_num, by rw [h1]; exact HI3.out, by rw [h1]; exact HGI.out⟩
        case measure => simp [intOf]; omega
      · have hadd := add_graph wr w.heap.size g mb vg L (R.map rG) hI.graph hz hGI BT (Nat.le_trans hBT hz) pk pn (p1, p2, p3) pf hch' hwk (by rw [hGl]; omega) har
        have hvk : Vok (Fo.cons pk pn (p1, p2, p3) pf .nil) := vok_of har ⟨hlk.1, hlk.2, trivial⟩
        obtain ⟨q1, q2, q3⟩ := radd1_G R pk pn (p1, p2, p3) pf hGI hvk
        rw [← q1, ← q2] at hadd
        have h1 := hbs
        rw [bOne, if_pos har] at h1
        dsimp only at h1
        obtain ⟨i, hi⟩ : ∃ i : Nat, (radd1 R pk pn (p1, p2, p3) pf).2 = i := ⟨_, rfl⟩
        obtain ⟨R4, hR4⟩ : ∃ R4, (radd1 R pk pn (p1, p2, p3) pf).1 = R4 := ⟨_, rfl⟩
        rw [hi, hR4] at hadd h1
        rw [hR4] at q3
        unfold tyVal at hadd
        dsimp only [slv] at hadd
        have HAD := Lib.hid hadd
        have HH1 := Lib.hid h1
        have HQ3 := Lib.hid q3
        have HVK := Lib.hid hvk
        have HRI := Lib.hid (And.intro hi hR4)
        have HCH := Lib.hid hch'
        have HGE := Lib.hid hge
        clear hadd har hrr hI hGI hbs hlk hal hch' hbb hst hle hbl hwk h1 q1 q2 q3 hi hR4 hvk hge
        go_wp2_with fail
        refine HAD.out.mono ?_
        rintro e w2 ⟨vg', E, rfl, hG2, hc2, hE⟩
        have hcell : ∀ off', w2.cell? ⟨b, off', none⟩ = wr.cell? ⟨b, off', none⟩ := fun off' => World.cell?_of_block (hc2.block b (by omega) (by have := HGE.out; omega) (by have := HGE.out; omega) (fun e => by have := (HII.out.graph.row.lt b e).1; omega))
        have y0 : w2.cell? ⟨b, off + j * 3, none⟩ = some (.int .i64 pk) := (hcell _).trans c0
        have y1 : w2.cell? ⟨b, off + j * 3 + 1, none⟩ = some (.int .i64 pn) := (hcell _).trans c1
        have y2 : w2.cell? ⟨b, off + j * 3 + 2, none⟩ = some (.slice p1 p2 p3) := (hcell _).trans c2
        have hvg : ∀ b, vg.ownBlock = some b → w.heap.size ≤ b := fun b hb => (HII.out.graph.row.lt b hb).1
        have hTw2 : Below BT wr w2 := ⟨hc2.os, hc2.tape, hc2.output, hc2.size, fun b hb => hc2.block b (by omega) (by have := HGE.out; omega) (by have := HGE.out; omega) (fun e => by have := hvg b e; omega)⟩
        have hz2 := hc2.size
        have hcall := HRR.out w2 hTw2
        unfold tyVal at hcall
        have HC := Lib.hid hcall
        have HT2 := Lib.hid hTw2
        have H2 := Lib.hid (And.intro hG2 (And.intro hc2 hE))
        clear c0 c1 c2 hcall hTw2 hG2 hc2 hE hcell hvg
        go_wp2_with fail
        refine HC.out.mono ?_
        rintro e w3 ⟨rfl, hb3⟩
        have z0 : w3.cell? ⟨b, off + j * 3, none⟩ = some (.int .i64 pk) := (hb3.cell (p := ⟨b, off + j * 3, none⟩) (by simp only; omega)).trans y0
        have z1 : w3.cell? ⟨b, off + j * 3 + 1, none⟩ = some (.int .i64 pn) := (hb3.cell (p := ⟨b, off + j * 3 + 1, none⟩) (by simp only; omega)).trans y1
        have z2 : w3.cell? ⟨b, off + j * 3 + 2, none⟩ = some (.slice p1 p2 p3) := (hb3.cell (p := ⟨b, off + j * 3 + 2, none⟩) (by simp only; omega)).trans y2
        obtain ⟨hG2, hc2, hE⟩ := H2.out
        obtain ⟨hm3, hr3, hb03⟩ := HII.out.added hBT hc2 HGE.out hb3
        have hz3 := hb3.size
        have hml : M.length = R.length := by rw [← HII.out.eqR]; simp [M1]
        have hva : ∀ b', (Value.slice A2 A.length c2').ownBlock = some b' → b' < w3.heap.size := fun b' e => (hr3.lt b' e).2
        have hvg' : ∀ b', vg'.ownBlock = some b' → b' < w2.heap.size := fun b' e => (hG2.row.lt b' e).2
        have hgl := hG2.lt
        have hradd := raddw_any BT _ _ pf pk pn (p1, p2, p3) w3 M _ (Nat.lt_succ_self _) (by omega) (Nat.le_trans hBT hb03.size) (HCH.out.below (HT2.out.trans (hb3.mono (Nat.le_trans hBT (Nat.le_trans hz hz2))))) HVK.out.1 HVK.out.2.1 (fun b' hb' => ⟨by omega, by omega, (fun e => by have := hvg' b' e; omega), (fun e => by have := hva b' e; omega)⟩) hm3
        replace hradd := hradd.mono (R' := fun e w' => ∃ (v' : Value) (M' : List Rm), e = .returned (.tuple #[v', .int .i64 (i : Nat)]) ∧ M1 M' = R4 ∧ RgM (fun b => b ≠ g ∧ b ≠ mb ∧ vg'.ownBlock ≠ some b ∧ (Value.slice A2 A.length c2').ownBlock ≠ some b) BT w' v' M' ∧ Below w3.heap.size w3 w') (by
          rintro e w' ⟨v', M', h1, h2, h3, h4⟩
          rw [HII.out.eqR] at h1 h2
          rw [HRI.out.1] at h1
          rw [HRI.out.2] at h2
          exact ⟨v', M', h1, h2, h3, h4⟩)
        unfold tyVal at hradd
        dsimp only [slv] at hradd
        have HRA := Lib.hid hradd
        have HB3 := Lib.hid (And.intro hb3 (And.intro hr3 hb03))
        clear y0 y1 y2 hb3 hG2 hc2 hE hm3 hr3 hb03 hva hvg' hradd hml hgl
        go_wp2_with fail
        refine HRA.out.mono ?_
        rintro e w4 ⟨vm4, M4, rfl, hM4, hR4, hb4⟩
        obtain ⟨hG2, hc2, hE⟩ := H2.out
        obtain ⟨hb3, hr3, hb03⟩ := HB3.out
        obtain ⟨A4, c4, rfl⟩ := hR4.row.1.form
        have hb24 := hb3.trans (hb4.mono hb3.size)
        obtain ⟨A6, n6, c6, w6, run6, hfin⟩ := HII.out.fin hBT (by omega) hG2 hE hb24 hR4 hM4 (own_below hr3 hb4) (hb03.trans (hb4.mono hb03.size)) i
        have HF := Lib.hid hfin
        clear z0 z1 z2 hM4 hR4 hb4 hG2 hc2 hE hb3 hr3 hb03 hb24 hfin
        go_wp2_with fail
        go_roundw
        case rel => exact ⟨j + 1, vg', L ++ E, M4, by omega, by go_num, by rw [HH1.out]; exact HF.out, by rw [HH1.out]; exact HQ3.out⟩
        case measure => simp [intOf]; omega
    · obtain rfl : j = F.len := by omega
      rw [Fo.take_len] at hI hGI ⊢
      have HII := Lib.hid (And.intro hI hGI)
      clear hI hGI
      go_wp2_with fail
      exact bodyPost_ret (results_tmp4 rfl _ _ _) rfl ⟨g, mb, vg, _, _, L, M, rfl, HII.out.1, HII.out.2⟩
end Go.Proofs.Ytbdckmnppeglfaa
/- Types without the places where their parts lie. Nothing here speaks of the program. -/
namespace Go.Proofs.Ytbdckmnppeglfaa
namespace Fo
/-- Without places. -/
def pure : Fo → Fo
  | nil => nil
  | cons k n _ ps r => cons k n (none, 0, 0) ps.pure r.pure
theorem pure_pure (f : Fo) : f.pure.pure = f.pure := by
  induction f with
  | nil => rfl
  | cons k n v ps r i1 i2 => simp [pure, i1, i2]
theorem pure_size (f : Fo) : f.pure.size = f.size := by
  induction f with
  | nil => rfl
  | cons k n v ps r i1 i2 => simp [pure, size, i1, i2]
theorem pure_len (f : Fo) : f.pure.len = f.len := by
  induction f with
  | nil => rfl
  | cons k n v ps r i1 i2 => simp [pure, len, i2]
theorem pure_depth (f : Fo) : f.pure.depth = f.depth := by
  induction f with
  | nil => rfl
  | cons k n v ps r i1 i2 => simp [pure, depth, i1, i2]
theorem pure_app (f g : Fo) : (f.app g).pure = f.pure.app g.pure := by
  induction f with
  | nil => rfl
  | cons k n v ps r i1 i2 => simp [pure, app, i2]
theorem same_iff (f g : Fo) : f.same g = true ↔ f.pure = g.pure := by
  induction f generalizing g with
  | nil => cases g <;> simp [same, pure]
  | cons k n v ps r i1 i2 => cases g with
    | nil => simp [same, pure]
    | cons k' n' v' ps' r' => simp [same, pure, i1, i2, and_assoc]
end Fo
theorem img_iff (f g : Fo) : Img idn f g ↔ g.pure = f.pure := by
  induction f generalizing g with
  | nil => cases g <;> simp [Img, Fo.pure]
  | cons k n v ps r i1 i2 => cases g with
    | nil => simp [Img, Fo.pure]
    | cons k' n' v' ps' r' => simp [Img, Fo.pure, i1, i2, nm_id]
end Go.Proofs.Ytbdckmnppeglfaa
