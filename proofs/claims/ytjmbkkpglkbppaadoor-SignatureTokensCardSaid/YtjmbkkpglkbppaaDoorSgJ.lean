/- signature: the reader's read; Read. -/
import Derived.Test.YtjmbkkpglkbppaaDoorSgI
import Derived.Laws.EntriesVeiled
namespace Go.Proofs.YtjmbkkpglkbppaaDoor
open Go.RowKit

/-- What read owes. -/
def ReadPost (S : Tk) (w0 : World) (X : List Nat) (rb : Nat) (tv : Value) (i lev most : Int) (bf : Value) (w : World) (e : Ending) (w' : World) : Prop :=
  ∃ (o : Out) (u : Sl) (lev' : Int) (av' : Value) (f : Fo), RdIs S most i lev o ∧ e = .returned (.tuple #[tyVal o.ty.1 o.ty.2.1 (slv u), .int .i64 o.no]) ∧ f = o.ty.2.2 ∧ FinT 28 w0.heap.size X w' f u ∧ RdrAt w' rb tv o.pos lev' most bf av' ∧ Below w0.heap.size w0 w' ∧ Kept X w w'
def ReadRel (S : Tk) (w0 w : World) (X : List Nat) (rb : Nat) (tv : Value) (i lev most : Int) (bf : Value) (wr : World) : Prop :=
  ∃ (ms' : List MF) (lev' i' : Int), (∀ o, M S most (.first i' lev' (KK ms')) o → M S most (.first i lev []) o) ∧ (-9223372036854775808 ≤ lev' ∧ lev' ≤ most) ∧ FrOk most ms' ∧ LenOk ms' i' ∧
    St w0 ([w.heap.size] ++ X) rb tv most bf i' lev' ms' wr ∧ Kept X w wr ∧ wr.heap[w.heap.size]? = some (Obj.cells (tyC3 zP) 28)
theorem read_end {S : Tk} {w0 w V : World} {X : List Nat} {rb : Nat} {tv : Value} {i lev most : Int} {bf : Value} {o : Out} {u : Sl} {lev' : Int} {av' : Value} (hR : RdIs S most i lev o) (hf : FinT 28 w0.heap.size ([w.heap.size] ++ X) V o.ty.2.2 u) (hr : RdrAt V rb tv o.pos lev' most bf av') (hb : Below w0.heap.size w0 V) (hk : Kept X w V)
    (hB : w0.heap.size ≤ w.heap.size) (hX : ∀ x ∈ X, x < w.heap.size) (hrb : V.heap[w.heap.size]? = some (Obj.cells (tyC3 zP) 28)) :
    ReadPost S w0 X rb tv i lev most bf w (.returned (.tuple #[tyVal o.ty.1 o.ty.2.1 (slv u), .int .i64 o.no])) (((V.setCell ⟨w.heap.size, 0, none⟩ (.int .i64 o.ty.1)).setCell ⟨w.heap.size, 1, none⟩ (.int .i64 o.ty.2.1)).setCell ⟨w.heap.size, 2, none⟩ (slv u)) := by
  refine ⟨o, u, lev', av', _, hR, rfl, rfl, hf.back (by simp [World.setCell]) (fun k cs hk2 hc => (set_ty_other _ _ _ (by simpa using hk2)).trans hc), (set_ty_other _ _ _ ?_).trans hr, below_set3 hb _ hB _ _ _, fun b hb2 => (set_ty_other _ _ _ (by have := hX b hb2; omega)).trans (hk b hb2)⟩
  rintro rfl
  exact hr.notT _ (by decide) _ hrb
theorem ReadPost.alloc {S : Tk} {w0 w w' : World} {X : List Nat} {rb : Nat} {tv : Value} {i lev most : Int} {bf : Value} {e : Ending} (h : ReadPost S w0 X rb tv i lev most bf w e w') (hX : ∀ b ∈ X, b < w'.heap.size) (o : Obj) : ReadPost S w0 X rb tv i lev most bf w e (w'.alloc o) := by
  obtain ⟨o2, u, lev', av', f, h1, h2, h3, h4, h5, h6, h7⟩ := h
  have hal : Below w'.heap.size w' (w'.alloc o) := (Below.refl _ _).alloc (Nat.le_refl _) _
  exact ⟨o2, u, lev', av', f, h1, h2, h3, h4.keep (keepT_below hal), h5.below hal, h6.trans (hal.mono h6.size), h7.trans (Kept.below hal hX)⟩
set_option maxRecDepth 100000 in
set_option maxHeartbeats 8000000 in
theorem read_any (w0 w : World) (X : List Nat) (rb : Nat) (tv : Value) (ts : List TV) (gf : Nat) (lb : Array Value) (bsF : TV → Option (Int × Int)) (hG : Given w0 tv ts gf lb bsF w0) (i lev most : Int)
    (hs : St w0 X rb tv most (.func (.func gf) #[] lb) i lev [] w) (hl : -9223372036854775808 ≤ lev ∧ most ≤ 9223372036854775807) :
    Calls Tryd.prog 17 #[.pointer (some ⟨rb, 0, none⟩)] w (ReadPost (tkOf bsF ts) w0 X rb tv i lev most (.func (.func gf) #[] lb) w) := by
  obtain ⟨w2, hw2⟩ : ∃ w2, w.alloc (.cells (tyC3 zP) 28) = w2 := ⟨_, rfl⟩
  have hbs := hs.bel.size
  have hb2 : Below w.heap.size w w2 := by rw [← hw2]; exact (Below.refl _ _).alloc (Nat.le_refl _) _
  have hr2 : w2.heap[w.heap.size]? = some (Obj.cells (tyC3 zP) 28) := by rw [← hw2]; exact heap_alloc_new w _
  have hst2 : St w0 ([w.heap.size] ++ X) rb tv most (.func (.func gf) #[] lb) i lev [] w2 := hs.aside hb2 (by
    intro b hb
    simp only [List.mem_cons, List.not_mem_nil, or_false] at hb
    subst hb
    exact ⟨Nat.le_refl _, _, hr2⟩)
  have hk2 : Kept X w w2 := Kept.below hb2 hs.xlt
  have HXL := Lib.hid hs.xlt
  have HG := Lib.hid hG
  obtain ⟨av, hr, _⟩ := hs.own
  obtain ⟨c0, c1, c2, c3, c4, c5⟩ := hr.cells
  have hrl := hr.lt
  by_cases hlm : most < lev
  · have f1 : decide (most < lev) = true := decide_eq_true hlm
    obtain ⟨av2, hr2', _⟩ := hst2.own
    have hfin := fun n => read_end (S := tkOf bsF ts) (o := .err 4 i) (u := (none, 0, 0)) (V := w2.drewN n) (.inl ⟨hlm, rfl⟩) fin_nil hr2' (below_drewN hst2.bel n) hk2 hbs hs.xlt hr2
    have HFIN := Lib.hid hfin
    have HRR := Lib.hid (fun n => ty_cells (w := w2.drewN n) hr2)
    clear hfin hr2' hst2 hr2 hb2 hk2 hs hr hlm
    subst hw2
    go_enter Tryd.func17, Tryd.ntmps17
    go_wp2_with fail
    go_quiet (fail)
    go_wp2_with fail
    exact bodyPost_ret (results_box_tmp (p := 2) (q := 3) rfl _ _ _ _ rfl (put_ty 0 0 (none, 0, 0) (HRR.out _).1 (HRR.out _).2.1 (HRR.out _).2.2)) rfl (HFIN.out _)
  · have f1 : decide (most < lev) = false := decide_eq_false hlm
    have hrel : ∀ n, ReadRel (tkOf bsF ts) w0 w X rb tv i lev most (.func (.func gf) #[] lb) (w2.drewN n) := fun n => ⟨[], lev, i, fun _ h => h, ⟨hl.1, by omega⟩, (fun m hm => by cases hm), .inl rfl, hst2.below (below_drewN (Below.refl _ _) n), hk2, hr2⟩
    have HREL := Lib.hid hrel
    have hle : lev ≤ most := by omega
    clear hrel hst2 hr2 hb2 hk2 hs hr hlm
    subst hw2
    go_enter Tryd.func17, Tryd.ntmps17
    go_wp2_with fail
    go_quiet (fail)
    go_wp2_with fail
    go_loopw [] (fun wr => ReadRel (tkOf bsF ts) w0 w X rb tv i lev most (.func (.func gf) #[] lb) wr) (fun wr => ((1000001 : Int) - atOf rb wr).toNat)
    case atStart => exact HREL.out _
    case round =>
      obtain ⟨ms', lev', i', hM, hlv, hok, hlo, hst, hkp, hrb⟩ := hrel
      have hfst := first_any w0 wr ([w.heap.size] ++ X) rb tv ts gf lb bsF HG.out i' lev' most ms' hst hok hlo ⟨hlv.1, hlv.2, hl.2⟩
      have hlw : w.heap.size < wr.heap.size := (Array.getElem?_eq_some_iff.1 hrb).1
      have HAT := Lib.hid hst.atOf
      have HF1 := Lib.hid hfst
      have HM := Lib.hid hM
      have HKP := Lib.hid hkp
      have HRB := Lib.hid hrb
      clear hfst hM hkp hrb hst hok hlo c0 c1 c2 c3 c4 c5 f1
      go_wp2_with fail
      refine HF1.out.mono ?_
      rintro e w3 (⟨ms3, ⟨p0, p1, ⟨pa, pb, pc⟩, pf⟩, lev3, i3, rfl, hM3, hi3, hi3b, hlv3, hok3, hlo3, hf3, hst3, hk3⟩ | ⟨er, i3, lev3, av3, her, rfl, hM3, hR3, hb3, hk3⟩)
      · dsimp only [tyVal, slv]
        have hr3 := (hk3 w.heap.size (by simp)).trans HRB.out
        have hal : Below w3.heap.size w3 (w3.alloc (.cells (tyC3 (p0, p1, (pa, pb, pc), pf)) 28)) := (Below.refl _ _).alloc (Nat.le_refl _) _
        have hbx : (w3.alloc (.cells (tyC3 (p0, p1, (pa, pb, pc), pf)) 28)).heap[w3.heap.size]? = some (Obj.cells (tyC3 (p0, p1, (pa, pb, pc), pf)) 28) := heap_alloc_new w3 _
        have hst4 : St w0 ([w3.heap.size] ++ ([w.heap.size] ++ X)) rb tv most (.func (.func gf) #[] lb) i3 lev3 ms3 (w3.alloc (.cells (tyC3 (p0, p1, (pa, pb, pc), pf)) 28)) := hst3.aside hal (by
          intro b hb
          simp only [List.mem_cons, List.not_mem_nil, or_false] at hb
          subst hb
          exact ⟨Nat.le_refl _, _, hbx⟩)
        have hf4 : FinT 28 w0.heap.size (([w3.heap.size] ++ ([w.heap.size] ++ X)) ++ acts ms3) (w3.alloc (.cells (tyC3 (p0, p1, (pa, pb, pc), pf)) 28)) pf (pa, pb, pc) := by
          rw [List.append_assoc]
          exact hf3.aside (keepT_below hal) (by intro b hb; simp only [List.mem_cons, List.not_mem_nil, or_false] at hb; omega)
        have hbeh := behind_any w0 (w3.alloc (.cells (tyC3 (p0, p1, (pa, pb, pc), pf)) 28)) ([w3.heap.size] ++ ([w.heap.size] ++ X)) rb tv ts gf lb bsF HG.out i3 lev3 most ms3 (p0, p1, (pa, pb, pc), pf) hst4 hf4 hok3 hlo3 hi3b ⟨hlv3.1, hlv3.2, hl.2⟩
        dsimp only [tyVal, slv, tyC3] at hbeh
        have hlw3 : w.heap.size < w3.heap.size := (Array.getElem?_eq_some_iff.1 hr3).1
        have hkal : Kept ([w3.heap.size] ++ ([w.heap.size] ++ X)) (w3.alloc (.cells (tyC3 (p0, p1, (pa, pb, pc), pf)) 28)) (w3.alloc (.cells (tyC3 (p0, p1, (pa, pb, pc), pf)) 28)) := fun _ _ => rfl
        have hkall : Kept X w (w3.alloc (.cells (tyC3 (p0, p1, (pa, pb, pc), pf)) 28)) := (HKP.out.trans fun b hb => hk3 b (List.mem_append_right _ hb)).trans (Kept.below hal fun b hb => by have := HXL.out b hb; omega)
        have hral := (hal.block _ hlw3).trans hr3
        have HBH := Lib.hid hbeh
        have H3 := Lib.hid (And.intro hM3 (And.intro hbx (And.intro hkall hral)))
        have hXne : ∀ b ∈ [w.heap.size] ++ X, b ∉ [w3.heap.size] := by
          intro b hb hb2
          simp only [List.mem_cons, List.not_mem_nil, or_false] at hb2
          rcases List.mem_append.1 hb with hb | hb
          · simp only [List.mem_cons, List.not_mem_nil, or_false] at hb; omega
          · have := HXL.out b hb; omega
        have HXN := Lib.hid hXne
        have hbs3 : w0.heap.size ≤ w3.heap.size := by omega
        clear hM3 hok3 hlo3 hf3 hst3 hk3 hr3 hal hbx hst4 hf4 hbeh hkal hkall hral hXne
        go_wp2_with fail
        refine HBH.out.mono ?_
        rintro e w6 (⟨⟨q0, q1, ⟨qa, qb, qc⟩, qf⟩, i6, lev6, rfl, hM6, hf6, hst6, hk6⟩ | ⟨ms6, i6, lev6, rfl, hM6, hi6, hlv6, hok6, hlo6, hst6, hk6⟩ | ⟨er, i6, lev6, av6, her, rfl, hM6, hR6, hb6, hk6⟩)
        · dsimp only [tyVal, slv]
          have hx6 := (hk6 w3.heap.size (by simp)).trans H3.out.2.1
          have hr6 := (hk6 w.heap.size (by simp)).trans H3.out.2.2.2
          obtain ⟨t0, t1, t2⟩ := ty_cells hx6
          obtain ⟨r0, r1, r2⟩ := ty_cells hr6
          have tf0 := frozen_cells hx6 0
          have tf1 := frozen_cells hx6 1
          have tf2 := frozen_cells hx6 2
          have rf0 := frozen_cells hr6 0
          have rf1 := frozen_cells hr6 1
          have rf2 := frozen_cells hr6 2
          dsimp only [slv, zP] at t0 t1 t2 r0 r1 r2
          obtain ⟨V, hV⟩ : ∃ V, ((w6.setCell ⟨w3.heap.size, 0, none⟩ (.int .i64 q0)).setCell ⟨w3.heap.size, 1, none⟩ (.int .i64 q1)).setCell ⟨w3.heap.size, 2, none⟩ (.slice qa qb qc) = V := ⟨_, rfl⟩
          have hVne : ∀ k, k ≠ w3.heap.size → V.heap[k]? = w6.heap[k]? := fun k hk => by rw [← hV]; exact set_ty_other _ _ _ hk
          have hVs : V.heap.size = w6.heap.size := by rw [← hV]; simp [World.setCell]
          have hVb : Below w0.heap.size w6 V := by rw [← hV]; exact below_set3 (Below.refl _ _) _ hbs3 _ _ _
          have hstV := hst6.back hVs (fun k hk => hVne k (by simpa using hk)) HXN.out hVb
          have hfV : FinT 28 w0.heap.size ([w.heap.size] ++ X) V qf (qa, qb, qc) := by
            rw [List.append_assoc] at hf6
            have := hf6.back (w' := V) (by omega) (fun k cs hk hc => (hVne k (by simpa using hk)).trans hc)
            simpa [acts] using this
          obtain ⟨avV, hRV, _⟩ := hstV.own
          have hrV := (hVne w.heap.size (by omega)).trans hr6
          have hkV : Kept X w V := (H3.out.2.2.1.trans fun b hb => hk6 b (List.mem_append_right _ (List.mem_append_right _ hb))).trans fun b hb => hVne b (by have := HXL.out b hb; omega)
          have hfin := read_end (S := tkOf bsF ts) (o := .done (ptP (q0, q1, (qa, qb, qc), qf)) i6) (u := (qa, qb, qc)) (V := V) (.inr ⟨hle, HM.out _ (H3.out.1 _ hM6)⟩) hfV hRV hstV.bel hkV hbs HXL.out hrV
          have HFIN := Lib.hid hfin
          have HRR := Lib.hid (ty_cells hrV)
          have HV := Lib.hid hV
          clear hfin hrV hkV hRV hfV hstV hVb hVs hVne hV hM6 hf6 hst6 hk6 hx6 hr6
          rw [← HV.out] at HFIN HRR
          go_wp2_with fail
          exact bodyPost_ret (results_box_tmp (p := 2) (q := 3) rfl _ _ _ _ rfl (put_ty q0 q1 (qa, qb, qc) HRR.out.1 HRR.out.2.1 HRR.out.2.2)) rfl HFIN.out
        · have hx6 := (hk6 w3.heap.size (by simp)).trans H3.out.2.1
          have hr6 := (hk6 w.heap.size (by simp)).trans H3.out.2.2.2
          obtain ⟨t0, t1, t2⟩ := ty_cells hx6
          have tf0 := frozen_cells hx6 0
          have tf1 := frozen_cells hx6 1
          have tf2 := frozen_cells hx6 2
          dsimp only [slv, zP] at t0 t1 t2
          dsimp only [tyVal]
          obtain ⟨V, hV⟩ : ∃ V, ((w6.setCell ⟨w3.heap.size, 0, none⟩ (.int .i64 0)).setCell ⟨w3.heap.size, 1, none⟩ (.int .i64 0)).setCell ⟨w3.heap.size, 2, none⟩ (.slice none 0 0) = V := ⟨_, rfl⟩
          have hVne : ∀ k, k ≠ w3.heap.size → V.heap[k]? = w6.heap[k]? := fun k hk => by rw [← hV]; exact set_ty_other _ _ _ hk
          have hVs : V.heap.size = w6.heap.size := by rw [← hV]; simp [World.setCell]
          have hVb : Below w0.heap.size w6 V := by rw [← hV]; exact below_set3 (Below.refl _ _) _ hbs3 _ _ _
          have hstV := hst6.back hVs (fun k hk => hVne k (by simpa using hk)) HXN.out hVb
          have hatV := hstV.atOf
          have hrV := (hVne w.heap.size (by omega)).trans hr6
          have hkV : Kept X w V := (H3.out.2.2.1.trans fun b hb => hk6 b (List.mem_append_right _ (List.mem_append_right _ hb))).trans fun b hb => hVne b (by have := HXL.out b hb; omega)
          have hrel6 : ReadRel (tkOf bsF ts) w0 w X rb tv i lev most (.func (.func gf) #[] lb) V := ⟨ms6, lev6, i6, fun o ho => HM.out o (H3.out.1 o (hM6 o ho)), hlv6, hok6, hlo6, hstV, hkV, hrV⟩
          have HREL6 := Lib.hid hrel6
          rw [← hV] at HREL6 hatV
          clear hrel6 hrV hkV hstV hVb hVs hVne hV hM6 hok6 hlo6 hst6 hk6 hx6 hr6
          go_wp2_with fail
          go_roundw
          case rel => exact HREL6.out
          case measure =>
            rw [hatV, HAT.out]
            omega
        · have hx6 := (hk6 w3.heap.size (by simp)).trans H3.out.2.1
          have hr6 := (hk6 w.heap.size (by simp)).trans H3.out.2.2.2
          obtain ⟨t0, t1, t2⟩ := ty_cells hx6
          obtain ⟨r0, r1, r2⟩ := ty_cells hr6
          have tf0 := frozen_cells hx6 0
          have tf1 := frozen_cells hx6 1
          have tf2 := frozen_cells hx6 2
          have rf0 := frozen_cells hr6 0
          have rf1 := frozen_cells hr6 1
          have rf2 := frozen_cells hr6 2
          dsimp only [slv, zP] at t0 t1 t2 r0 r1 r2
          dsimp only [tyVal]
          have hne : (er != 0) = true := bne_iff_ne.2 her
          obtain ⟨V, hV⟩ : ∃ V, ((w6.setCell ⟨w3.heap.size, 0, none⟩ (.int .i64 0)).setCell ⟨w3.heap.size, 1, none⟩ (.int .i64 0)).setCell ⟨w3.heap.size, 2, none⟩ (.slice none 0 0) = V := ⟨_, rfl⟩
          have hVne : ∀ k, k ≠ w3.heap.size → V.heap[k]? = w6.heap[k]? := fun k hk => by rw [← hV]; exact set_ty_other _ _ _ hk
          have hVb : Below w0.heap.size w6 V := by rw [← hV]; exact below_set3 (Below.refl _ _) _ hbs3 _ _ _
          have hrb3 : rb ≠ w3.heap.size := by rintro e; rw [e] at hR6; exact hR6.notT _ (by decide) _ hx6
          have hrV := (hVne w.heap.size (by omega)).trans hr6
          have hkV : Kept X w V := (H3.out.2.2.1.trans fun b hb => hk6 b (List.mem_append_right _ (List.mem_append_right _ hb))).trans fun b hb => hVne b (by have := HXL.out b hb; omega)
          have hfin := read_end (S := tkOf bsF ts) (o := .err er i6) (u := (none, 0, 0)) (V := V) (.inr ⟨hle, HM.out _ (H3.out.1 _ hM6)⟩) fin_nil ((hVne rb hrb3).trans hR6) (hb6.trans hVb) hkV hbs HXL.out hrV
          have HFIN := Lib.hid hfin
          have HRR := Lib.hid (ty_cells hrV)
          have HV := Lib.hid hV
          clear hfin hrV hkV hVb hVne hV hM6 hk6 hx6 hr6 hR6 hb6 her
          rw [← HV.out] at HFIN HRR
          go_wp2_with fail
          exact bodyPost_ret (results_box_tmp (p := 2) (q := 3) rfl _ _ _ _ rfl (put_ty 0 0 (none, 0, 0) HRR.out.1 HRR.out.2.1 HRR.out.2.2)) rfl HFIN.out
      · have hr3 := (hk3 w.heap.size (by simp)).trans HRB.out
        obtain ⟨r0, r1, r2⟩ := ty_cells hr3
        have rf0 := frozen_cells hr3 0
        have rf1 := frozen_cells hr3 1
        have rf2 := frozen_cells hr3 2
        dsimp only [slv, zP] at r0 r1 r2
        dsimp only [tyVal]
        have hne : (er != 0) = true := bne_iff_ne.2 her
        have hlw3 : w.heap.size < w3.heap.size := (Array.getElem?_eq_some_iff.1 hr3).1
        have hbs3 : w0.heap.size ≤ w3.heap.size := by omega
        have hfin := read_end (S := tkOf bsF ts) (o := .err er i3) (u := (none, 0, 0)) (.inr ⟨hle, HM.out _ hM3⟩) fin_nil hR3 hb3 (HKP.out.trans fun b hb => hk3 b (List.mem_append_right _ hb)) hbs HXL.out hr3
        have hfin2 := hfin.alloc (fun b hb => by have := HXL.out b hb; simp [World.setCell]; omega) (.cells #[.int .i64 0, .int .i64 0, .slice none 0 0] 28)
        have HFIN := Lib.hid hfin2
        have hrV : (((w3.setCell ⟨w.heap.size, 0, none⟩ (.int .i64 0)).setCell ⟨w.heap.size, 1, none⟩ (.int .i64 0)).setCell ⟨w.heap.size, 2, none⟩ (.slice none 0 0)).heap[w.heap.size]? = some (Obj.cells (tyC3 zP) 28) := set_ty zP hr3
        have HRR := Lib.hid (ty_cells ((Below.heap_alloc _ (.cells #[.int .i64 0, .int .i64 0, .slice none 0 0] 28) _ (by simp [World.setCell]; exact hlw3)).trans hrV))
        clear hfin hfin2 hrV hr3 hM3 hR3 hb3 hk3 her
        go_wp2_with fail
        exact bodyPost_ret (results_box_tmp (p := 2) (q := 3) rfl _ _ _ _ rfl (load_ty (k := 0) (n := 0) (u := (none, 0, 0)) HRR.out.1 HRR.out.2.1 HRR.out.2.2)) rfl HFIN.out
/-- What Read owes. -/
def ReadFn (S : Tk) (i lev most : Int) (w : World) (e : Ending) (w' : World) : Prop :=
  ∃ (o : Out) (u : Sl) (f : Fo), RdIs S most i lev o ∧ e = .returned (.tuple #[tyVal o.ty.1 o.ty.2.1 (slv u), .int .i64 o.pos, .int .i64 o.no]) ∧ f = o.ty.2.2 ∧ FreshT 28 w.heap.size w' id f u ∧ Below w.heap.size w w'
set_option maxRecDepth 100000 in
set_option maxHeartbeats 8000000 in
theorem sread_any (w : World) (tv : Value) (ts : List TV) (i lev most : Int) (ht : RdT w tv ts) (hts : ts.length ≤ 1000000) (hl : -9223372036854775808 ≤ lev ∧ most ≤ 9223372036854775807) :
    Calls Tryd.prog 7 #[tv, .int .i64 i, .int .i64 lev, .int .i64 most] w (ReadFn (tkOf namedB ts) i lev most w) := by
  obtain ⟨w2, hw2⟩ : ∃ w2, (w.alloc (.cells (tyC3 zP) 28)).alloc (.cells (rdC tv i lev most (.func (.func 16) #[] #[]) (.slice none 0 0)) 51) = w2 := ⟨_, rfl⟩
  have hb2 : Below w.heap.size w w2 := by rw [← hw2]; exact ((Below.refl _ _).alloc (Nat.le_refl _) _).alloc (by simp) _
  have hx2 : w2.heap[w.heap.size]? = some (Obj.cells (tyC3 zP) 28) := by rw [← hw2]; exact (Below.heap_alloc _ _ _ (by simp)).trans (heap_alloc_new w _)
  have hr2 : RdrAt w2 (w.heap.size + 1) tv i lev most (.func (.func 16) #[] #[]) (.slice none 0 0) := by
    have := heap_alloc_new (w.alloc (.cells (tyC3 zP) 28)) (.cells (rdC tv i lev most (.func (.func 16) #[] #[]) (.slice none 0 0)) 51)
    rw [World.size_alloc, hw2] at this
    exact this
  have hst : St w [w.heap.size] (w.heap.size + 1) tv most (.func (.func 16) #[] #[]) i lev [] w2 := by
    refine ⟨⟨_, hr2, ⟨rfl, .inl ⟨rfl, rfl⟩⟩⟩, ⟨(fun m hm => by cases hm), (fun m hm => by cases hm)⟩, fun b hb => ?_, by simp [acts], hb2, by omega⟩
    simp only [List.mem_cons, List.not_mem_nil, or_false] at hb
    subst hb
    exact ⟨⟨_, hx2⟩, by simp [acts]⟩
  have hG : Given w tv ts 16 #[] namedB w := ⟨ht, hts, by simp [namedB], enters_of Tryd.func16 (by kernel_rfl) rfl, fun t W _ => named_any W t⟩
  have HRD := Lib.hid (read_any w w2 [w.heap.size] (w.heap.size + 1) tv ts 16 #[] namedB hG i lev most hst hl)
  have HX2 := Lib.hid hx2
  have hs2 : w2.heap.size = w.heap.size + 2 := by rw [← hw2]; simp
  have HS2 := Lib.hid hs2
  have hbel2 := hb2.size
  obtain ⟨A, n, c, hvv⟩ : ∃ A n c, tv = .slice A n c := by
    rcases ht.2 with ⟨_, A, c, h⟩ | ⟨b, off, cap, h, _⟩
    · exact ⟨A, 0, c, h⟩
    · exact ⟨_, _, _, h⟩
  clear hst hG hr2 hx2 hb2 ht hts hl hs2 hbel2
  subst hvv
  subst hw2
  go_enter Tryd.func7, Tryd.ntmps7
  go_wp2_with fail
  refine HRD.out.mono ?_
  rintro e w3 ⟨o, ⟨u1, u2, u3⟩, lev', av', f, hR, rfl, hf, hfin, hr3, hb3, hk3⟩
  have hx3 := (hk3 w.heap.size (by simp)).trans HX2.out
  obtain ⟨x0, x1, x2⟩ := ty_cells hx3
  have xf0 := frozen_cells hx3 0
  have xf1 := frozen_cells hx3 1
  have xf2 := frozen_cells hx3 2
  obtain ⟨c0, c1, c2, c3, c4, c5⟩ := hr3.cells
  dsimp only [slv, zP] at x0 x1 x2
  dsimp only [tyVal, slv]
  have hl3 := hr3.lt
  have hl4 : w.heap.size < w3.heap.size := (Array.getElem?_eq_some_iff.1 hx3).1
  obtain ⟨E, hE⟩ : ∃ E, ((w3.setCell ⟨w.heap.size, 0, none⟩ (.int .i64 o.ty.1)).setCell ⟨w.heap.size, 1, none⟩ (.int .i64 o.ty.2.1)).setCell ⟨w.heap.size, 2, none⟩ (.slice u1 u2 u3) = E := ⟨_, rfl⟩
  have hEs : E.heap.size = w3.heap.size := by rw [← hE]; simp [World.setCell]
  have hEne : ∀ k, k ≠ w.heap.size → E.heap[k]? = w3.heap[k]? := fun k hk => by rw [← hE]; exact set_ty_other _ _ _ hk
  have hEc : E.heap[w.heap.size]? = some (Obj.cells (tyC3 (o.ty.1, o.ty.2.1, (u1, u2, u3), f)) 28) := by rw [← hE]; exact set_ty (o.ty.1, o.ty.2.1, (u1, u2, u3), f) hx3
  have hEb : Below w.heap.size w3 E := by rw [← hE]; exact below_set3 (Below.refl _ _) _ (Nat.le_refl _) _ _ _
  have hall : ∀ (o1 : Obj), ReadFn (tkOf namedB ts) i lev most w (.returned (.tuple #[tyVal o.ty.1 o.ty.2.1 (slv (u1, u2, u3)), .int .i64 o.pos, .int .i64 o.no])) (E.alloc o1).drew := by
    intro o1
    have hal : Below E.heap.size E (E.alloc o1).drew := ((Below.refl _ _).alloc (Nat.le_refl _) _).drew
    refine ⟨o, (u1, u2, u3), f, hR, rfl, hf, (FinT.to (A' := []) hfin (by have := hal.size; omega) fun b cs _ hb hc => ⟨by simp, ?_⟩).fresh, (hb3.trans hEb).trans (hal.mono (by omega))⟩
    have hbl := (Array.getElem?_eq_some_iff.1 hc).1
    exact (hal.block b (by omega)).trans ((hEne b (by simpa using hb)).trans hc)
  have hrr : ∀ (o1 : Obj), (loadVar 28 ⟨w.heap.size, 0, none⟩).run Tryd.prog (E.alloc o1).drew = .ok (tyVal o.ty.1 o.ty.2.1 (slv (u1, u2, u3))) (E.alloc o1).drew := fun o1 => by
    obtain ⟨h0, h1, h2⟩ := ty_cells (w := (E.alloc o1).drew) ((Below.heap_alloc E o1 _ (by omega)).trans hEc)
    exact load_ty h0 h1 h2
  rw [← hE] at hall hrr
  have HALL := Lib.hid hall
  have HRR := Lib.hid hrr
  clear hall hrr hEb hEc hEne hEs hE hx3 hfin hr3 hb3 hk3 hR hf HX2 HRD HS2
  generalize o.ty.1 = k at *
  generalize o.ty.2.1 = m at *
  generalize o.pos = op at *
  generalize o.no = on at *
  go_wp2_with fail
  go_region
  go_wp2_with fail
  exact bodyPost_ret (results_box_tmp2 (p := 8) (q := 9) (r := 10) rfl _ _ _ _ rfl (HRR.out _)) rfl (HALL.out _)
end Go.Proofs.YtjmbkkpglkbppaaDoor
