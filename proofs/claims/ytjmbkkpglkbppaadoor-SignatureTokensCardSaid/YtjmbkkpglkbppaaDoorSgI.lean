/- signature: the reader's behind: the walk. -/
import Derived.Test.YtjmbkkpglkbppaaDoorSgH
import Derived.WalkMore
namespace Go.Proofs.YtjmbkkpglkbppaaDoor
open Go.RowKit
attribute [local go_sem ↓] builtin_app

def zP : Pt := (0, 0, (none, 0, 0), .nil)
/-- What behind owes. -/
def BehPost (S : Tk) (w0 : World) (X : List Nat) (rb : Nat) (tv : Value) (i lev most : Int) (bf : Value) (ms : List MF) (p : Pt) (w : World) (e : Ending) (w' : World) : Prop :=
  (∃ (q : Pt) (i' lev' : Int), e = .returned (.tuple #[tyVal q.1 q.2.1 (slv q.2.2.1), .bool true, .int .i64 0]) ∧ M S most (.behind (ptP p) i lev (KK ms)) (.done (ptP q) i') ∧
    FinT 28 w0.heap.size (X ++ acts []) w' q.2.2.2 q.2.2.1 ∧ St w0 X rb tv most bf i' lev' [] w' ∧ Kept X w w') ∨
  (∃ (ms' : List MF) (i' lev' : Int), e = .returned (.tuple #[tyVal 0 0 (.slice none 0 0), .bool false, .int .i64 0]) ∧ (∀ o, M S most (.first i' lev' (KK ms')) o → M S most (.behind (ptP p) i lev (KK ms)) o) ∧ i < i' ∧ (-9223372036854775808 ≤ lev' ∧ lev' ≤ most) ∧ FrOk most ms' ∧ LenOk ms' i' ∧
    St w0 X rb tv most bf i' lev' ms' w' ∧ Kept X w w') ∨
  (∃ (er i' lev' : Int) (av' : Value), er ≠ 0 ∧ e = .returned (.tuple #[tyVal 0 0 (.slice none 0 0), .bool false, .int .i64 er]) ∧ M S most (.behind (ptP p) i lev (KK ms)) (.err er i') ∧ RdrAt w' rb tv i' lev' most bf av' ∧ Below w0.heap.size w0 w' ∧ Kept X w w')
/-- Between two rounds. -/
def BehRel (S : Tk) (w0 w : World) (X : List Nat) (rb : Nat) (tv : Value) (i lev most : Int) (bf : Value) (ms : List MF) (p : Pt) (wr : World) : Prop :=
  ∃ (ms' : List MF) (q : Pt) (lev' i' : Int), (∀ o, M S most (.behind (ptP q) i' lev' (KK ms')) o → M S most (.behind (ptP p) i lev (KK ms)) o) ∧ (i ≤ i' ∧ i' ≤ 1000000) ∧ (-9223372036854775808 ≤ lev' ∧ lev' ≤ most) ∧ FrOk most ms' ∧ LenOk ms' i' ∧
    FinT 28 w0.heap.size (([w.heap.size, w.heap.size + 1] ++ X) ++ acts ms') wr q.2.2.2 q.2.2.1 ∧ St w0 ([w.heap.size, w.heap.size + 1] ++ X) rb tv most bf i' lev' ms' wr ∧ Kept X w wr ∧
    wr.heap[w.heap.size]? = some (Obj.cells (tyC3 q) 28) ∧ wr.heap[w.heap.size + 1]? = some (Obj.cells (tyC3 zP) 28)
theorem beh_start (S : Tk) (w0 w : World) (X : List Nat) (rb : Nat) (tv : Value) (i lev most : Int) (bf : Value) (ms : List MF) (p : Pt) (hs : St w0 X rb tv most bf i lev ms w) (hp : FinT 28 w0.heap.size (X ++ acts ms) w p.2.2.2 p.2.2.1) (hok : FrOk most ms) (hlo : LenOk ms i) (hi : i ≤ 1000000) (hl : -9223372036854775808 ≤ lev ∧ lev ≤ most) :
    BehRel S w0 w X rb tv i lev most bf ms p ((w.alloc (.cells (tyC3 p) 28)).alloc (.cells (tyC3 zP) 28)) := by
  obtain ⟨w2, hw2⟩ : ∃ w2, (w.alloc (.cells (tyC3 p) 28)).alloc (.cells (tyC3 zP) 28) = w2 := ⟨_, rfl⟩
  have hb2 : Below w.heap.size w w2 := by rw [← hw2]; exact ((Below.refl _ _).alloc (Nat.le_refl _) _).alloc (by simp) _
  have ht2 : w2.heap[w.heap.size]? = some (Obj.cells (tyC3 p) 28) := by rw [← hw2]; exact (Below.heap_alloc _ _ _ (by simp)).trans (heap_alloc_new w _)
  have hr2 : w2.heap[w.heap.size + 1]? = some (Obj.cells (tyC3 zP) 28) := by
    have := heap_alloc_new (w.alloc (.cells (tyC3 p) 28)) (.cells (tyC3 zP) 28)
    rw [World.size_alloc, hw2] at this
    exact this
  rw [hw2]
  refine ⟨ms, p, lev, i, fun _ h => h, ⟨Int.le_refl _, hi⟩, hl, hok, hlo, ?_, hs.aside hb2 ?_, Kept.below hb2 hs.xlt, ht2, hr2⟩
  · rw [List.append_assoc]
    exact hp.aside (keepT_below hb2) (by intro b hb; simp only [List.mem_cons, List.not_mem_nil, or_false] at hb; omega)
  · intro b hb
    simp only [List.mem_cons, List.not_mem_nil, or_false] at hb
    rcases hb with rfl | rfl
    · exact ⟨Nat.le_refl _, _, ht2⟩
    · exact ⟨by omega, _, hr2⟩
/-- Where the answer's box is written to last: what the others are told. -/
theorem St.leave {w0 : World} {X : List Nat} {rb : Nat} {tv : Value} {most : Int} {bf : Value} {i lev : Int} {ms : List MF} {V : World} {b : Nat} (h : St w0 ([b, b + 1] ++ X) rb tv most bf i lev ms V) (hB : w0.heap.size ≤ b) (hX : ∀ x ∈ X, x < b) (x y z : Value) :
    St w0 X rb tv most bf i lev ms (((V.setCell ⟨b + 1, 0, none⟩ x).setCell ⟨b + 1, 1, none⟩ y).setCell ⟨b + 1, 2, none⟩ z) := by
  refine h.back (by simp [World.setCell]) (fun k hk => set_ty_other _ _ _ ?_) (fun c hc hc2 => ?_) (below_set3 (Below.refl _ _) _ (by omega) _ _ _)
  · simp only [List.mem_cons, List.not_mem_nil, or_false, not_or] at hk; exact hk.2
  · have := hX c hc
    simp only [List.mem_cons, List.not_mem_nil, or_false] at hc2
    omega
theorem FinT.leave {B : Nat} {A X : List Nat} {V : World} {f : Fo} {u : Sl} {b : Nat} (h : FinT 28 B (([b, b + 1] ++ X) ++ A) V f u) (x y z : Value) :
    FinT 28 B (X ++ A) (((V.setCell ⟨b + 1, 0, none⟩ x).setCell ⟨b + 1, 1, none⟩ y).setCell ⟨b + 1, 2, none⟩ z) f u := by
  rw [List.append_assoc] at h
  refine h.back (by simp [World.setCell]) fun k cs hk hc => (set_ty_other _ _ _ ?_).trans hc
  simp only [List.mem_cons, List.not_mem_nil, or_false, not_or] at hk
  exact hk.2
/-- An error is told: what the others are told then. -/
theorem beh_err {S : Tk} {w0 : World} {X : List Nat} {rb : Nat} {tv : Value} {i lev most : Int} {bf : Value} {ms : List MF} {p : Pt} {w V : World} {er i' lev' : Int} {av' : Value} (he : er ≠ 0) (hM : M S most (.behind (ptP p) i lev (KK ms)) (.err er i')) (hr : RdrAt V rb tv i' lev' most bf av') (hb : Below w0.heap.size w0 V) (hk : Kept X w V)
    (hB : w0.heap.size ≤ w.heap.size) (hX : ∀ x ∈ X, x < w.heap.size) (hrb : V.heap[w.heap.size + 1]? = some (Obj.cells (tyC3 zP) 28)) :
    BehPost S w0 X rb tv i lev most bf ms p w (.returned (.tuple #[tyVal 0 0 (.slice none 0 0), .bool false, .int .i64 er])) (((V.setCell ⟨w.heap.size + 1, 0, none⟩ (.int .i64 0)).setCell ⟨w.heap.size + 1, 1, none⟩ (.int .i64 0)).setCell ⟨w.heap.size + 1, 2, none⟩ (.slice none 0 0)) := by
  refine .inr (.inr ⟨er, i', lev', av', he, rfl, hM, (set_ty_other _ _ _ ?_).trans hr, below_set3 hb _ (by omega) _ _ _, fun b hb => (set_ty_other _ _ _ (by have := hX b hb; omega)).trans (hk b hb)⟩)
  rintro rfl
  exact hr.notT _ (by decide) _ hrb
set_option maxRecDepth 100000 in
set_option maxHeartbeats 8000000 in
theorem behind_any (w0 w : World) (X : List Nat) (rb : Nat) (tv : Value) (ts : List TV) (gf : Nat) (lb : Array Value) (bsF : TV → Option (Int × Int)) (hG : Given w0 tv ts gf lb bsF w0) (i lev most : Int) (ms : List MF) (p : Pt)
    (hs : St w0 X rb tv most (.func (.func gf) #[] lb) i lev ms w) (hp : FinT 28 w0.heap.size (X ++ acts ms) w p.2.2.2 p.2.2.1) (hok : FrOk most ms) (hlo : LenOk ms i) (hi : i ≤ 1000000) (hl : -9223372036854775808 ≤ lev ∧ lev ≤ most ∧ most ≤ 9223372036854775807) :
    Calls Tryd.prog 33 #[.pointer (some ⟨rb, 0, none⟩), tyVal p.1 p.2.1 (slv p.2.2.1)] w (BehPost (tkOf bsF ts) w0 X rb tv i lev most (.func (.func gf) #[] lb) ms p w) := by
  have HREL := Lib.hid (beh_start (tkOf bsF ts) w0 w X rb tv i lev most (.func (.func gf) #[] lb) ms p hs hp hok hlo hi ⟨hl.1, hl.2.1⟩)
  have hbs := hs.bel.size
  have HXL := Lib.hid hs.xlt
  have HG := Lib.hid hG
  have hmost := hl.2.2
  clear hs hok hlo hl hG hp
  obtain ⟨pk, pn, ⟨p1, p2, p3⟩, pf⟩ := p
  dsimp only [tyVal, slv]
  go_enter Tryd.func33, Tryd.ntmps33
  go_wp2
  go_step3
  go_wp2
  go_step3
  go_wp2
  go_loopw [] (fun wr => BehRel (tkOf bsF ts) w0 w X rb tv i lev most (.func (.func gf) #[] lb) ms (pk, pn, (p1, p2, p3), pf) wr) (fun wr => ((1000001 : Int) - atOf rb wr).toNat)
  case atStart => exact HREL.out
  case round =>
    obtain ⟨ms', q, lev', i', hM, hii, hlv, hok, hlo, hfq, hst, hkp, htb, hrb⟩ := hrel
    have hlw : w.heap.size + 1 < wr.heap.size := (Array.getElem?_eq_some_iff.1 hrb).1
    have HAT := Lib.hid hst.atOf
    have HS4 := Lib.hid (hst.sees HG.out ⟨#[45, 62]⟩ [45, 62] (by rw [toList_data]))
    obtain ⟨q0, q1, ⟨qa, qb, qc⟩, qf⟩ := q
    have hrl := hst.rlt
    have HST := Lib.hid hst
    have HFQ := Lib.hid hfq
    have HM := Lib.hid hM
    have HKP := Lib.hid hkp
    have HTB := Lib.hid (And.intro htb hrb)
    have HOK := Lib.hid (And.intro hok hlo)
    clear hst hfq hM hkp htb hrb hok hlo
    obtain ⟨b4, hb4⟩ : ∃ b, seesB ts i' [45, 62] = b := ⟨_, rfl⟩
    rw [hb4] at HS4
    have HB4 := Lib.hid hb4
    go_wp2_with fail
    refine (HS4.out _ (Below.refl _ _)).mono ?_
    rintro e w3 ⟨rfl, hb3⟩
    have hst3 := HST.out.below hb3
    have hf3 := HFQ.out.keep (keepT_below hb3)
    have ht3 := (hb3.block _ (Array.getElem?_eq_some_iff.1 HTB.out.1).1).trans HTB.out.1
    have hr3 := (hb3.block _ (Array.getElem?_eq_some_iff.1 HTB.out.2).1).trans HTB.out.2
    have hk3 : Kept X w w3 := HKP.out.trans (Kept.below hb3 fun b hb => HST.out.xlt b (List.mem_append_right _ hb))
    obtain ⟨t0, t1, t2⟩ := ty_cells ht3
    obtain ⟨r0, r1, r2⟩ := ty_cells hr3
    dsimp only [slv] at t0 t1 t2 r0 r1 r2
    have tf := fun o => frozen_cells ht3 o
    have rf := fun o => frozen_cells hr3 o
    have tf0 := tf 0
    have tf1 := tf 1
    have tf2 := tf 2
    have rf0 := rf 0
    have rf1 := rf 1
    have rf2 := rf 2
    have hl3 : w.heap.size + 1 < w3.heap.size := Nat.lt_of_lt_of_le hlw hb3.size
    have hrl3 : rb < w3.heap.size := Nat.lt_of_lt_of_le hrl hb3.size
    cases b4 with
    | true =>
      obtain ⟨hi0, hin⟩ := sees_in hb4
      have hfew := HG.out.few
      have hlen : ms'.length ≤ 1000000 := by
        rcases HOK.out.2 with h | h
        · rw [h]; simp
        · omega
      obtain ⟨hpF, hpX, hpN⟩ := hst3.push (q := (q0, q1, (qa, qb, qc), qf)) hf3 lev'
      obtain ⟨av, hr, hown⟩ := (hst3.below ((Below.refl _ _).alloc (Nat.le_refl _) (.cells (tyC3 (q0, q1, (qa, qb, qc), qf)) 28))).own
      have hbel4 := (hst3.below ((Below.refl _ _).alloc (Nat.le_refl _) (.cells (tyC3 (q0, q1, (qa, qb, qc), qf)) 28))).bel
      have hbeg := begin_any w0 (w3.alloc (.cells (tyC3 (q0, q1, (qa, qb, qc), qf)) 28)) ([w.heap.size, w.heap.size + 1] ++ X) rb tv i' lev' most 0 (.func (.func gf) #[] lb) av ms' true (some ⟨w3.heap.size, 0, none⟩, 1, 1) [(q0, q1, (qa, qb, qc), qf)] hr hown hpF hpX hpN hbel4 hst3.rb_ (by omega) (by omega) hlen
      have hkal : Kept ([w.heap.size, w.heap.size + 1] ++ X) w3 (w3.alloc (.cells (tyC3 (q0, q1, (qa, qb, qc), qf)) 28)) := Kept.below ((Below.refl _ _).alloc (Nat.le_refl _) _) hst3.xlt
      have HK := Lib.hid (And.intro hkal (And.intro hk3 (And.intro ht3 hr3)))
      dsimp only [tyC3, slv] at hbeg
      have HBG := Lib.hid hbeg
      clear hb4 hst3 hf3 ht3 hr3 hk3 hpF hpX hpN hr hown hbel4 hbeg hb3 hkal tf rf
      go_wp2_with fail
      refine HBG.out.mono ?_
      rintro e w4 (⟨hlm, rfl, ⟨av4, hR4⟩, hb4, hk4⟩ | ⟨hlm, rfl, hst4, hk4⟩)
      · have hr4 := (hk4 (w.heap.size + 1) (by simp)).trans ((HK.out.1 (w.heap.size + 1) (by simp)).trans HK.out.2.2.2)
        obtain ⟨x0, x1, x2⟩ := ty_cells hr4
        have xf0 := frozen_cells hr4 0
        have xf1 := frozen_cells hr4 1
        have xf2 := frozen_cells hr4 2
        dsimp only [slv, zP] at x0 x1 x2
        have HX4 := Lib.hid (And.intro x0 (And.intro x1 x2))
        have hfin : BehPost (tkOf bsF ts) w0 X rb tv i lev most (.func (.func gf) #[] lb) ms (pk, pn, (p1, p2, p3), pf) w _ _ := beh_err (er := 4) (by decide) (HM.out _ (.adeep ((sg4 ts i').2 HB4.out) hlm)) hR4 hb4 ((HK.out.2.1.trans (fun b hb => HK.out.1 b (List.mem_append_right _ hb))).trans (fun b hb => hk4 b (List.mem_append_right _ hb))) hbs HXL.out hr4
        have HFIN := Lib.hid hfin
        clear hlm hR4 hb4 hk4 hr4 hfin
        go_wp2_with fail
        try rw [Exit.noGoto_ret]
        exact bodyPost_ret (results_box_tmp2 (p := 4) (q := 5) (r := 6) rfl _ _ _ _ rfl (put_ty 0 0 (none, 0, 0) HX4.out.1 HX4.out.2.1 HX4.out.2.2)) rfl HFIN.out
      · have hr4 := (hk4 (w.heap.size + 1) (by simp)).trans ((HK.out.1 (w.heap.size + 1) (by simp)).trans HK.out.2.2.2)
        obtain ⟨x0, x1, x2⟩ := ty_cells hr4
        have xf0 := frozen_cells hr4 0
        have xf1 := frozen_cells hr4 1
        have xf2 := frozen_cells hr4 2
        dsimp only [slv, zP] at x0 x1 x2
        have HX4 := Lib.hid (And.intro x0 (And.intro x1 x2))
        have hfin : BehPost (tkOf bsF ts) w0 X rb tv i lev most (.func (.func gf) #[] lb) ms (pk, pn, (p1, p2, p3), pf) w (.returned (.tuple #[tyVal 0 0 (.slice none 0 0), .bool false, .int .i64 0])) (((w4.setCell ⟨w.heap.size + 1, 0, none⟩ (.int .i64 0)).setCell ⟨w.heap.size + 1, 1, none⟩ (.int .i64 0)).setCell ⟨w.heap.size + 1, 2, none⟩ (.slice none 0 0)) := by
          refine .inr (.inl ⟨ms' ++ [⟨true, lev', (some ⟨w3.heap.size, 0, none⟩, 1, 1), [(q0, q1, (qa, qb, qc), qf)]⟩], i' + 1, lev' + 1, rfl, fun o ho => HM.out o (.arrow ((sg4 ts i').2 HB4.out) hlm (by rw [KK_snoc] at ho; exact ho)), by omega, by omega, ?_, ?_, hst4.leave hbs HXL.out _ _ _, fun b hb => ?_⟩)
          · intro m hm
            rcases List.mem_append.1 hm with hm | hm
            · exact HOK.out.1 m hm
            · obtain rfl := List.mem_singleton.1 hm
              exact ⟨by simp, hlv⟩
          · refine .inr ?_
            rw [List.length_append, List.length_singleton]
            rcases HOK.out.2 with h | h
            · rw [h]; simp; omega
            · omega
          · exact (set_ty_other _ _ _ (by have := HXL.out b hb; omega)).trans ((hk4 b (List.mem_append_right _ hb)).trans ((HK.out.1 b (List.mem_append_right _ hb)).trans (HK.out.2.1 b hb)))
        have HFIN := Lib.hid hfin
        clear hlm hst4 hk4 hr4 hfin
        go_wp2_with fail
        try rw [Exit.noGoto_ret]
        exact bodyPost_ret (results_box_tmp2 (p := 4) (q := 5) (r := 6) rfl _ _ _ _ rfl (put_ty 0 0 (none, 0, 0) HX4.out.1 HX4.out.2.1 HX4.out.2.2)) rfl HFIN.out
    | false =>
      have hns : sgOf ts i' ≠ 4 := fun h => by
        have := (sg4 ts i').1 h
        rw [hb4] at this
        cases this
      have hlen : ms'.length ≤ 1000000 := by
        rcases HOK.out.2 with h | h
        · rw [h]; simp
        · omega
      have harr := arrows_end w0 w3 ([w.heap.size, w.heap.size + 1] ++ X) rb tv i' lev' most (.func (.func gf) #[] lb) ms' (q0, q1, (qa, qb, qc), qf) hst3 hf3 HOK.out.1 hlen hlv
      dsimp only [tyVal, slv] at harr
      have HAR := Lib.hid harr
      have HK := Lib.hid (And.intro hk3 (And.intro ht3 hr3))
      have HNS := Lib.hid hns
      clear hb4 hst3 hf3 ht3 hr3 hk3 hb3 tf rf harr hns
      go_wp2_with fail
      refine HAR.out.mono ?_
      rintro e w4 ⟨ms2, rr, ⟨x0, x1, ⟨xa, xb, xc⟩, xf⟩, lev2, rfl, hms2, hM2, hor, hlv2, hf4, hst4, hk4⟩
      dsimp only [tyVal, slv]
      have ht4 := (hk4 w.heap.size (by simp)).trans HK.out.2.1
      have hr4 := (hk4 (w.heap.size + 1) (by simp)).trans HK.out.2.2
      obtain ⟨t0, t1, t2⟩ := ty_cells ht4
      obtain ⟨r0, r1, r2⟩ := ty_cells hr4
      dsimp only [slv, zP] at t0 t1 t2 r0 r1 r2
      have tf0 := frozen_cells ht4 0
      have tf1 := frozen_cells ht4 1
      have tf2 := frozen_cells ht4 2
      have rf0 := frozen_cells hr4 0
      have rf1 := frozen_cells hr4 1
      have rf2 := frozen_cells hr4 2
      have hrl4 := hst4.rlt
      obtain ⟨av, hr, hown⟩ := hst4.own
      have hrt : rb ≠ w.heap.size := by rintro rfl; exact hr.notT _ (by decide) _ ht4
      -- the world behind the store
      obtain ⟨V, hV⟩ : ∃ V, ((w4.setCell ⟨w.heap.size, 0, none⟩ (.int .i64 x0)).setCell ⟨w.heap.size, 1, none⟩ (.int .i64 x1)).setCell ⟨w.heap.size, 2, none⟩ (.slice xa xb xc) = V := ⟨_, rfl⟩
      have hVne : ∀ k, k ≠ w.heap.size → V.heap[k]? = w4.heap[k]? := fun k hk => by rw [← hV]; exact set_ty_other _ _ _ hk
      have hVs : V.heap.size = w4.heap.size := by rw [← hV]; simp [World.setCell]
      have hVt : V.heap[w.heap.size]? = some (Obj.cells (tyC3 (x0, x1, (xa, xb, xc), xf)) 28) := by rw [← hV]; exact set_ty (x0, x1, (xa, xb, xc), xf) ht4
      have hVb : Below w0.heap.size w4 V := by rw [← hV]; exact below_set3 (Below.refl _ _) _ hbs _ _ _
      have hstV := hst4.set (b := w.heap.size) (by simp) hbs hVs hVne ⟨_, hVt⟩ hVb
      have hfV := hf4.set (b := w.heap.size) (by simp) hVs hVne
      have hrV : V.heap[w.heap.size + 1]? = some (Obj.cells (tyC3 zP) 28) := (hVne _ (by omega)).trans hr4
      have hkV : Kept X w V := fun b hb => (hVne b (by have := HXL.out b hb; omega)).trans ((hk4 b (List.mem_append_right _ hb)).trans (HK.out.1 b hb))
      have hMV : ∀ o, M (tkOf bsF ts) most (.ends (ptP (x0, x1, (xa, xb, xc), xf)) i' lev2 (KK ms2)) o → M (tkOf bsF ts) most (.behind (ptP (pk, pn, (p1, p2, p3), pf)) i lev (KK ms)) o := fun o ho => HM.out o (.over HNS.out (hM2 _ o ho))
      have hokV : FrOk most ms2 := fun m hm => HOK.out.1 m (by rw [hms2]; exact List.mem_append_left _ hm)
      have hloV : LenOk ms2 i' := by
        rcases HOK.out.2 with h | h
        · refine .inl ?_
          rw [h] at hms2
          exact (List.append_eq_nil_iff.1 hms2.symm).1
        · refine .inr ?_
          have := congrArg List.length hms2
          rw [List.length_append] at this
          omega
      have hrlV : rb < V.heap.size := by omega
      have hlV : w.heap.size + 1 < V.heap.size := (Array.getElem?_eq_some_iff.1 hrV).1
      rcases hor with rfl | ⟨a, m, rfl, hma⟩
      · obtain ⟨A, c, rfl, _, _⟩ := own_form hown
        obtain ⟨c0, c1, c2, c3, c4, c5⟩ := hr.cells
        dsimp only [List.length_nil] at c5
        have HX4 := Lib.hid (ty_cells hrV)
        have hfin : BehPost (tkOf bsF ts) w0 X rb tv i lev most (.func (.func gf) #[] lb) ms (pk, pn, (p1, p2, p3), pf) w (.returned (.tuple #[tyVal x0 x1 (.slice xa xb xc), .bool true, .int .i64 0])) (((V.setCell ⟨w.heap.size + 1, 0, none⟩ (.int .i64 x0)).setCell ⟨w.heap.size + 1, 1, none⟩ (.int .i64 x1)).setCell ⟨w.heap.size + 1, 2, none⟩ (.slice xa xb xc)) := by
          refine .inl ⟨(x0, x1, (xa, xb, xc), xf), i', lev2, rfl, hMV _ .whole, hfV.leave _ _ _, hstV.leave hbs HXL.out _ _ _, fun b hb => (set_ty_other _ _ _ (by have := HXL.out b hb; omega)).trans (hkV b hb)⟩
        have HFIN := Lib.hid hfin
        rw [← hV] at HFIN HX4
        clear hfin hstV hfV hrV hkV hMV hokV hloV hVb hVt hVs hVne hV hms2 hM2 hf4 hst4 hk4 ht4 hr4 hr hown hrlV hlV
        go_wp2_with fail
        try rw [Exit.noGoto_ret]
        exact bodyPost_ret (results_box_tmp2 (p := 4) (q := 5) (r := 6) rfl _ _ _ _ rfl (put_ty x0 x1 (xa, xb, xc) HX4.out.1 HX4.out.2.1 HX4.out.2.2)) rfl HFIN.out
      · rw [List.length_append, List.length_singleton, mfC_snoc] at hown
        obtain ⟨g, cp, rfl, hg0, hg2⟩ := own_shape hown (by omega)
        obtain ⟨n, hn⟩ : ∃ n, a.length = n := ⟨_, rfl⟩
        rw [hn] at hown hr
        obtain ⟨c0, c1, c2, c3, c4, c5⟩ := hr.cells
        have hHV := Lib.hid (And.intro hVs (And.intro hVt (And.intro hVb (And.intro hstV (And.intro hfV (And.intro hrV (And.intro hkV (And.intro hMV (And.intro hokV hloV)))))))))
        have hgt : g ≠ w.heap.size := by
          rintro rfl
          exact row_not hown (by decide) _ rfl _ ht4
        have hVown : V.ownsRow w0.heap.size 92 3 (.slice (some ⟨g, 0, none⟩) (n + 1) cp) (n + 1) (a.flatMap mfC ++ mfC m) := row_keepT hown (keepT_other (rb := w.heap.size) (by omega) (fun k _ hk => hVne k hk) (fun cs hc => by
          rw [ht4] at hc
          injection hc with hc
          injection hc with _ h2 _
          exact absurd h2 (by decide)))
        have hVR : RdrAt V rb tv i' lev2 most (.func (.func gf) #[] lb) (.slice (some ⟨g, 0, none⟩) (n + 1) cp) := (hVne rb hrt).trans hr
        have HVO := Lib.hid (And.intro hVown hVR)
        have hcell : ∀ j u, (mfC m)[j]? = some u → V.cell? ⟨g, n * 3 + j, none⟩ = some u := by
          intro j u hu
          have hj : j < 3 := (List.getElem?_eq_some_iff.1 hu).1
          rw [hVown.cellAt _ (by omega), List.getElem?_append_right (by rw [mfC_len, hn]; omega), mfC_len, hn]
          rw [show n * 3 + j - n * 3 = j by omega]
          exact hu
        have HCELL := Lib.hid hcell
        have HN := Lib.hid hn
        have hnb : n ≤ 1000000 := by
          rcases hloV with h | h
          · simp at h
          · simp only [List.length_append, List.length_singleton] at h; omega
        have HV2 := Lib.hid hV
        clear hcell hVown hVR hn hstV hfV hrV hkV hMV hokV hloV hVb hVt hVs hVne hms2 hM2 hf4 hst4 hk4 ht4 hr4 hr hown hrlV hlV hV
        go_upto_region 6 with fail
        refine wp_world (fun Z => Z = V) HV2.out ?_
        rintro Z rfl
        obtain ⟨hVs, hVt, hVb, hstV, hfV, hrV, hkV, hMV, hokV, hloV⟩ := hHV.out
        obtain ⟨hVown, hVR⟩ := HVO.out
        obtain ⟨d0, d1, d2, d3, d4, d5⟩ := hVR.cells
        have g0 := HCELL.out 0 _ rfl
        have g1 := HCELL.out 1 _ rfl
        have g2 := HCELL.out 2 _ rfl
        obtain ⟨y0, y1, y2⟩ := ty_cells hVt
        dsimp only [slv] at y0 y1 y2
        have hrlV := hVR.lt
        have hglV : g < Z.heap.size := by omega
        have hlV : w.heap.size + 1 < Z.heap.size := (Array.getElem?_eq_some_iff.1 hrV).1
        have hS2 := hstV.sees HG.out ⟨#[41]⟩ [41] (by rw [toList_data])
        have hS3 := hstV.sees HG.out ⟨#[42]⟩ [42] (by rw [toList_data])
        have hmL := hokV m (List.mem_append_right _ (List.mem_singleton.2 rfl))
        obtain ⟨b2, hb2⟩ : ∃ b, seesB ts i' [41] = b := ⟨_, rfl⟩
        rw [hb2] at hS2
        have HB2 := Lib.hid hb2
        have HS2 := Lib.hid hS2
        have HS3 := Lib.hid hS3
        have hz1 : (0 : Int) ≤ (n : Int) := by omega
        have hz2 : (n : Int) < (n : Int) + 1 := by omega
        have HML := Lib.hid hmL
        clear hVs hVt hVb hstV hfV hrV hkV hMV hokV hloV hVown hVR hS2 hS3 hb2 hmL c0 c1 c2 c3 c4 c5 t0 t1 t2 r0 r1 r2 tf0 tf1 tf2 rf0 rf1 rf2 hrl3 hl3
        go_region
        go_wp2_with fail
        refine (HS2.out _ (Below.refl _ _).drew).mono ?_
        rintro e w6 ⟨rfl, hb6'⟩
        have hb6 : Below Z.heap.size Z w6 := (Below.refl _ _).drew.trans hb6'
        obtain ⟨hVs, hVt, hVb, hstV, hfV, hrV, hkV, hMV, hokV, hloV⟩ := hHV.out
        have hst6 := hstV.below hb6
        have hf6 := hfV.keep (keepT_below hb6)
        have ht6 := (hb6.block _ (Array.getElem?_eq_some_iff.1 hVt).1).trans hVt
        have hr6 := (hb6.block _ (Array.getElem?_eq_some_iff.1 hrV).1).trans hrV
        have hk6 : Kept X w w6 := hkV.trans (Kept.below hb6 fun b hb => hstV.xlt b (List.mem_append_right _ hb))
        obtain ⟨hVown, hVR⟩ := HVO.out
        have hR6 := hVR.below hb6
        have ho6 := own_below2 hVown hb6
        have HB6 := Lib.hid hb6
        clear hVs hVt hVb hstV hfV hrV hkV hVown hVR hb6 hb6' d0 d1 d2 d3 d4 d5 g0 g1 g2 y0 y1 y2
        obtain ⟨y0, y1, y2⟩ := ty_cells ht6
        obtain ⟨d0, d1, d2, d3, d4, d5⟩ := hR6.cells
        have rd1 := frozen_cells hR6 1
        dsimp only [slv] at y0 y1 y2
        have hrl6 := hR6.lt
        obtain ⟨ar, ml, ⟨v1, v2, v3⟩, L⟩ := m
        have har : ar = false := hma
        subst har
        have hmk : KK (a ++ [⟨false, ml, (v1, v2, v3), L⟩]) = ⟨false, ml, L.map ptP⟩ :: KK a := KK_snoc _ _
        have e1 : ∀ (_ : 0 ≤ i' ∧ i' < ts.length), IntKind.i64.wrap (i' + 1) = i' + 1 := fun h => IntWalk.i64_in _ (by have := HG.out.few; omega)
        have hrt6 : rb ≠ w.heap.size := hrt
        have hlw6 : w.heap.size + 1 < w6.heap.size := (Array.getElem?_eq_some_iff.1 hr6).1
        cases b2 with
        | true =>
          have hrange := sees_in HB2.out
          have e1' := e1 hrange
          have hst7 := hst6.at_ (i' + 1)
          have hkp7 : ∀ k, k ≠ rb → (w6.setCell ⟨rb, 1, none⟩ (.int .i64 (i' + 1))).heap[k]? = w6.heap[k]? := fun k hk => Below.heap_setCell _ _ _ _ (by simpa using hk)
          have hf7 : FinT 28 w0.heap.size (([w.heap.size, w.heap.size + 1] ++ X) ++ acts (a ++ [⟨false, ml, (v1, v2, v3), L⟩])) (w6.setCell ⟨rb, 1, none⟩ (.int .i64 (i' + 1))) xf (xa, xb, xc) := hf6.keep (keepT_set (hR6.notT _ (by decide)))
          have hend := end_any w0 (w6.setCell ⟨rb, 1, none⟩ (.int .i64 (i' + 1))) ([w.heap.size, w.heap.size + 1] ++ X) rb tv (i' + 1) lev2 most (.func (.func gf) #[] lb) a ⟨false, ml, (v1, v2, v3), L⟩ (x0, x1, (xa, xb, xc), xf) hst7 hf7 (by rw [HN.out]; exact hnb) (by have := HML.out.1; simp only at this ⊢; omega)
          dsimp only [tyVal, slv] at hend
          have HE := Lib.hid hend
          have hX7 : ∀ b ∈ X, b ≠ rb := by
            rintro b hb rfl
            obtain ⟨⟨cs, hc⟩, _⟩ := hst6.xs b (List.mem_append_right _ hb)
            exact hR6.notT _ (by decide) cs hc
          have ht7 := (hkp7 w.heap.size (Ne.symm hrt)).trans ht6
          have hr7 := (hkp7 (w.heap.size + 1) (by rintro e; rw [← e] at hR6; exact hR6.notT _ (by decide) _ hr6)).trans hr6
          have hk7 : Kept X w (w6.setCell ⟨rb, 1, none⟩ (.int .i64 (i' + 1))) := hk6.trans fun b hb => hkp7 b (hX7 b hb)
          have H7 := Lib.hid (And.intro ht7 (And.intro hr7 hk7))
          have HMV := Lib.hid hMV
          have HOL := Lib.hid (And.intro hokV hloV)
          have HMK := Lib.hid hmk
          clear hst6 hf6 ht6 hr6 hk6 hR6 ho6 hst7 hkp7 hf7 hend hX7 ht7 hr7 hk7 hMV hokV hloV hmk e1
          go_wp2_with fail
          refine HE.out.mono ?_
          rintro e w8 ⟨⟨z0, z1, ⟨za, zb, zc⟩, zf⟩, rfl, hz, hfz, hsz8, hkz⟩
          dsimp only [tyVal, slv]
          have ht8 := (hkz w.heap.size (by simp)).trans H7.out.1
          have hr8 := (hkz (w.heap.size + 1) (by simp)).trans H7.out.2.1
          have hk8 : Kept X w w8 := H7.out.2.2.trans fun b hb => hkz b (List.mem_append_right _ hb)
          obtain ⟨t0, t1, t2⟩ := ty_cells ht8
          dsimp only [slv] at t0 t1 t2
          have tf0 := frozen_cells ht8 0
          have tf1 := frozen_cells ht8 1
          have tf2 := frozen_cells ht8 2
          have hne8 : ∀ k, k ≠ w.heap.size → (((w8.setCell ⟨w.heap.size, 0, none⟩ (.int .i64 z0)).setCell ⟨w.heap.size, 1, none⟩ (.int .i64 z1)).setCell ⟨w.heap.size, 2, none⟩ (.slice za zb zc)).heap[k]? = w8.heap[k]? := fun k hk => set_ty_other _ _ _ hk
          have hs8 : (((w8.setCell ⟨w.heap.size, 0, none⟩ (.int .i64 z0)).setCell ⟨w.heap.size, 1, none⟩ (.int .i64 z1)).setCell ⟨w.heap.size, 2, none⟩ (.slice za zb zc)).heap.size = w8.heap.size := by simp [World.setCell]
          have hb8 : (((w8.setCell ⟨w.heap.size, 0, none⟩ (.int .i64 z0)).setCell ⟨w.heap.size, 1, none⟩ (.int .i64 z1)).setCell ⟨w.heap.size, 2, none⟩ (.slice za zb zc)).heap[w.heap.size]? = some (Obj.cells (tyC3 (z0, z1, (za, zb, zc), zf)) 28) := set_ty (z0, z1, (za, zb, zc), zf) ht8
          have hst8 := hsz8.set (b := w.heap.size) (by simp) hbs hs8 hne8 ⟨_, hb8⟩ (below_set3 (Below.refl _ _) _ hbs _ _ _)
          have hat8 := hst8.atOf
          have hrel8 : BehRel (tkOf bsF ts) w0 w X rb tv i lev most (.func (.func gf) #[] lb) ms (pk, pn, (p1, p2, p3), pf) (((w8.setCell ⟨w.heap.size, 0, none⟩ (.int .i64 z0)).setCell ⟨w.heap.size, 1, none⟩ (.int .i64 z1)).setCell ⟨w.heap.size, 2, none⟩ (.slice za zb zc)) := by
            refine ⟨a, (z0, z1, (za, zb, zc), zf), ml, i' + 1, fun o ho => HMV.out o ?_, by have := HG.out.few; omega, HML.out.2, fun m hm => HOL.out.1 m (List.mem_append_left _ hm), ?_, hfz.set (b := w.heap.size) (by simp) hs8 hne8, hst8, fun b hb => (hne8 b (by have := HXL.out b hb; omega)).trans (hk8 b hb), hb8, (hne8 _ (by omega)).trans hr8⟩
            · rw [HMK.out]
              refine .close ((sg2 ts i').2 HB2.out) ?_
              rw [hz] at ho
              exact ho
            · rcases HOL.out.2 with h | h
              · simp at h
              · simp only [List.length_append, List.length_singleton] at h
                exact .inr (by omega)
          have HREL8 := Lib.hid hrel8
          clear hrel8 hst8 hb8 hs8 hne8 hk8 hr8 ht8 hz hfz hsz8 hkz
          go_wp2_with fail
          go_roundw
          case rel => exact HREL8.out
          case measure =>
            rw [hat8, HAT.out]
            have := HG.out.few
            omega
        | false =>
          have hn2 : sgOf ts i' ≠ 2 := fun h => by
            have := (sg2 ts i').1 h
            rw [HB2.out] at this
            cases this
          have hS3 := fun (W : World) (hb : Below w6.heap.size w6 W) => HS3.out W (HB6.out.trans (hb.mono HB6.out.size))
          have HS4 := Lib.hid hS3
          have H6 := Lib.hid (And.intro hst6 (And.intro hf6 (And.intro ht6 (And.intro hr6 (And.intro hk6 (And.intro hR6 ho6))))))
          have HMV := Lib.hid hMV
          have HOL := Lib.hid (And.intro hokV hloV)
          have HMK := Lib.hid hmk
          have HN2 := Lib.hid hn2
          obtain ⟨b3, hb3⟩ : ∃ b, seesB ts i' [42] = b := ⟨_, rfl⟩
          rw [hb3] at HS4
          have HB3 := Lib.hid hb3
          clear hst6 hf6 ht6 hr6 hk6 hR6 ho6 hMV hokV hloV hmk hn2 hS3 hb3 d0 d1 d2 d3 d4 d5 y0 y1 y2 rd1
          go_wp2_with fail
          refine (HS4.out _ (Below.refl _ _)).mono ?_
          rintro e w7 ⟨rfl, hb7⟩
          obtain ⟨hst6, hf6, ht6, hr6, hk6, hR6, ho6⟩ := H6.out
          have hst7 := hst6.below hb7
          have hf7 := hf6.keep (keepT_below hb7)
          have ht7 := (hb7.block _ (Array.getElem?_eq_some_iff.1 ht6).1).trans ht6
          have hr7 := (hb7.block _ (Array.getElem?_eq_some_iff.1 hr6).1).trans hr6
          have hk7 : Kept X w w7 := hk6.trans (Kept.below hb7 fun b hb => hst6.xlt b (List.mem_append_right _ hb))
          have hR7 := hR6.below hb7
          have ho7 := own_below2 ho6 hb7
          clear hst6 hf6 ht6 hr6 hk6 hR6 ho6 hb7
          obtain ⟨y0, y1, y2⟩ := ty_cells ht7
          obtain ⟨r0, r1, r2⟩ := ty_cells hr7
          obtain ⟨d0, d1, d2, d3, d4, d5⟩ := hR7.cells
          have rf0 := frozen_cells hr7 0
          have rf1 := frozen_cells hr7 1
          have rf2 := frozen_cells hr7 2
          have rd1 := frozen_cells hR7 1
          dsimp only [slv, zP] at y0 y1 y2 r0 r1 r2
          have hlw7 : w.heap.size + 1 < w7.heap.size := (Array.getElem?_eq_some_iff.1 hr7).1
          have hrl7 := hR7.lt
          cases b3 with
          | false =>
            have hfin : BehPost (tkOf bsF ts) w0 X rb tv i lev most (.func (.func gf) #[] lb) ms (pk, pn, (p1, p2, p3), pf) w _ _ := beh_err (er := 3) (by decide) (HMV.out _ (by
              rw [HMK.out]
              refine .form HN2.out fun h => ?_
              have := (sg3 ts i').1 h
              rw [HB3.out] at this
              cases this)) hR7 hst7.bel hk7 hbs HXL.out hr7
            have HFIN := Lib.hid hfin
            have HX4 := Lib.hid (And.intro r0 (And.intro r1 r2))
            clear hfin hst7 hf7 ht7 hr7 hk7 hR7 ho7 e1
            go_wp2_with fail
            try rw [Exit.noGoto_ret]
            exact bodyPost_ret (results_box_tmp2 (p := 4) (q := 5) (r := 6) rfl _ _ _ _ rfl (put_ty 0 0 (none, 0, 0) HX4.out.1 HX4.out.2.1 HX4.out.2.2)) rfl HFIN.out
          | true =>
            have hrow := hst7.fr.row ⟨false, ml, (v1, v2, v3), L⟩ (List.mem_append_right _ (List.mem_singleton.2 rfl))
            obtain ⟨A, c, hvv, _, _⟩ := own_form hrow
            simp only [slv] at hvv
            injection hvv with hv1 hv2 hv3
            subst hv2
            have hg2 : w7.cell? ⟨g, n * 3 + 2, none⟩ = some (.slice v1 L.length v3) := by
              rw [ho7.cellAt _ (by omega), List.getElem?_append_right (by rw [mfC_len, HN.out]; omega), mfC_len, HN.out]
              rw [show n * 3 + 2 - n * 3 = 2 by omega]
              rfl
            have hg7 : g < w7.heap.size := (ho7.lt g rfl).2
            have hrange := sees_in HB3.out
            have e1' := e1 hrange
            have hL7 : L.length ≤ 7 := HML.out.1
            by_cases h7 : L.length = 7
            · have f7 : ((L.length : Int) == 7) = true := by rw [h7]; rfl
              have hfin : BehPost (tkOf bsF ts) w0 X rb tv i lev most (.func (.func gf) #[] lb) ms (pk, pn, (p1, p2, p3), pf) w _ _ := beh_err (er := 6) (by decide) (HMV.out _ (by
                rw [HMK.out]
                exact .many ((sg3 ts i').2 HB3.out) (by simpa using h7))) hR7 hst7.bel hk7 hbs HXL.out hr7
              have HFIN := Lib.hid hfin
              have HX4 := Lib.hid (And.intro r0 (And.intro r1 r2))
              clear hfin hst7 hf7 ht7 hr7 hk7 hR7 ho7 e1 h7 hrow hv1 hv3
              go_wp2_with fail
              try rw [Exit.noGoto_ret]
              exact bodyPost_ret (results_box_tmp2 (p := 4) (q := 5) (r := 6) rfl _ _ _ _ rfl (put_ty 0 0 (none, 0, 0) HX4.out.1 HX4.out.2.1 HX4.out.2.2)) rfl HFIN.out
            · have f7 : ((L.length : Int) == 7) = false := beq_eq_false_iff_ne.2 (by omega)
              obtain ⟨Y, hY⟩ : ∃ Y, w7.setCell ⟨rb, 1, none⟩ (.int .i64 (i' + 1)) = Y := ⟨_, rfl⟩
              have hstY := hst7.at_ (i' + 1)
              have hfY : FinT 28 w0.heap.size (([w.heap.size, w.heap.size + 1] ++ X) ++ acts (a ++ [⟨false, ml, (v1, L.length, v3), L⟩])) (w7.setCell ⟨rb, 1, none⟩ (.int .i64 (i' + 1))) xf (xa, xb, xc) := hf7.keep (keepT_set (hR7.notT _ (by decide)))
              have hRY := hR7.set1 (i' + 1)
              have hoY := row_set (b := rb) (off := 1) (u := .int .i64 (i' + 1)) ho7 (hR7.notT _ (by decide))
              have hYne : ∀ k, k ≠ rb → Y.heap[k]? = w7.heap[k]? := fun k hk => by rw [← hY]; exact Below.heap_setCell _ _ _ _ (by simpa using hk)
              rw [hY] at hstY hfY hRY hoY
              have hYs : Y.heap.size = w7.heap.size := by rw [← hY]; simp [World.setCell]
              obtain ⟨g', cp', w1, hrun, ⟨z0, z1, z2⟩, zf, hgc, hgf, hgg, hgl1, hgl2, hfinS, hfinK⟩ := hstY.more (q := (x0, x1, (xa, xb, xc), xf)) hfY (by simp only; omega) HN.out hRY rfl hoY
              have htY := (hYne w.heap.size (Ne.symm hrt6)).trans ht7
              have hrw1 : rb ≠ w.heap.size + 1 := by rintro e; rw [e] at hR7; exact hR7.notT _ (by decide) _ hr7
              have hrY := (hYne (w.heap.size + 1) (Ne.symm hrw1)).trans hr7
              have hkY : Kept X w Y := hk7.trans fun b hb => hYne b (by
                rintro rfl
                obtain ⟨⟨cs, hc⟩, _⟩ := hst7.xs b (List.mem_append_right _ hb)
                exact hR7.notT _ (by decide) cs hc)
              obtain ⟨y0, y1, y2⟩ := ty_cells htY
              dsimp only [slv] at y0 y1 y2 hgc hrun z0 z1 z2 zf hfinS hfinK
              have hgY : Y.cell? ⟨g, n * 3 + 2, none⟩ = some (.slice v1 L.length v3) := by
                rw [hoY.cellAt _ (by omega), List.getElem?_append_right (by rw [mfC_len, HN.out]; omega), mfC_len, HN.out]
                rw [show n * 3 + 2 - n * 3 = 2 by omega]
                rfl
              have hgYl : g < Y.heap.size := by omega
              have hlwY : w.heap.size + 1 < Y.heap.size := by omega
              -- what the answer's box holds in the end
              obtain ⟨F, hF⟩ : ∃ F, (((w1.setCell ⟨g', L.length * 3, none⟩ (.int .i64 x0)).setCell ⟨g', L.length * 3 + 1, none⟩ (.int .i64 x1)).setCell ⟨g', L.length * 3 + 2, none⟩ (.slice xa xb xc)).setCell ⟨g, n * 3 + 2, none⟩ (.slice (some ⟨g', 0, none⟩) (L.length + 1) cp') = F := ⟨_, rfl⟩
              have hF2 : (((w1.setCell ⟨g, n * 3 + 2, none⟩ (.slice (some ⟨g', 0, none⟩) (L.length + 1) cp')).setCell ⟨g', L.length * 3, none⟩ (.int .i64 x0)).setCell ⟨g', L.length * 3 + 1, none⟩ (.int .i64 x1)).setCell ⟨g', L.length * 3 + 2, none⟩ (.slice xa xb xc) = F := by
                rw [← hF, set_comm w1 g _ g' _ _ _ hgg, set_comm _ g _ g' _ _ _ hgg, set_comm _ g _ g' _ _ _ hgg]
              rw [hF] at hfinS hfinK
              have hrF : F.heap[w.heap.size + 1]? = some (Obj.cells (tyC3 zP) 28) := (hfinK (w.heap.size + 1) (by simp)).trans hrY
              have hkF : Kept X w F := hkY.trans fun b hb => hfinK b (List.mem_append_right _ hb)
              have hfin : BehPost (tkOf bsF ts) w0 X rb tv i lev most (.func (.func gf) #[] lb) ms (pk, pn, (p1, p2, p3), pf) w (.returned (.tuple #[tyVal 0 0 (.slice none 0 0), .bool false, .int .i64 0])) (((F.setCell ⟨w.heap.size + 1, 0, none⟩ (.int .i64 0)).setCell ⟨w.heap.size + 1, 1, none⟩ (.int .i64 0)).setCell ⟨w.heap.size + 1, 2, none⟩ (.slice none 0 0)) := by
                refine .inr (.inl ⟨a ++ [⟨false, ml, (some ⟨g', 0, none⟩, L.length + 1, cp'), L ++ [(x0, x1, (xa, xb, xc), xf)]⟩], i' + 1, lev2, rfl, fun o ho => HMV.out o ?_, by omega, hlv2, ?_, ?_, hfinS.leave hbs HXL.out _ _ _, fun b hb => (set_ty_other _ _ _ (by have := HXL.out b hb; omega)).trans (hkF b hb)⟩)
                · rw [HMK.out]
                  refine .more ((sg3 ts i').2 HB3.out) (by simpa using h7) ?_
                  rw [KK_snoc] at ho
                  simpa [MF.fr] using ho
                · intro m hm
                  rcases List.mem_append.1 hm with hm | hm
                  · exact HOL.out.1 m (List.mem_append_left _ hm)
                  · obtain rfl := List.mem_singleton.1 hm
                    exact ⟨by simp; omega, HML.out.2⟩
                · rcases HOL.out.2 with h | h
                  · simp at h
                  · simp only [List.length_append, List.length_singleton] at h ⊢
                    exact .inr (by simp only [List.length_append, List.length_singleton]; omega)
              have hresg : w.heap.size + 1 ≠ g := by
                rintro e
                rw [e] at hrY
                exact row_not hoY (by decide) g rfl _ hrY
              have hresg' : w.heap.size + 1 ≠ g' := by
                intro e
                refine (hfinS.xs (w.heap.size + 1) (by simp)).2 ?_
                rw [acts_app]
                refine List.mem_append_right _ ?_
                rw [e]
                simp [acts, actB, slv, Value.ownBlock]
              have hrw1' : w1.heap[w.heap.size + 1]? = some (Obj.cells (tyC3 zP) 28) := by
                obtain ⟨E, hE⟩ : ∃ E, ((w1.setCell ⟨g', L.length * 3, none⟩ (.int .i64 x0)).setCell ⟨g', L.length * 3 + 1, none⟩ (.int .i64 x1)).setCell ⟨g', L.length * 3 + 2, none⟩ (.slice xa xb xc) = E := ⟨_, rfl⟩
                have h1 : E.heap[w.heap.size + 1]? = w1.heap[w.heap.size + 1]? := by rw [← hE]; exact set_cells_other _ _ _ _ _ _ _ _ _ hresg'
                have h2 : F.heap[w.heap.size + 1]? = E.heap[w.heap.size + 1]? := by rw [← hF, hE]; exact Below.heap_setCell _ _ _ _ hresg
                exact h1.symm.trans (h2.symm.trans hrF)
              obtain ⟨s0, s1, s2⟩ := ty_cells hrw1'
              have sf0 := frozen_cells hrw1' 0
              have sf1 := frozen_cells hrw1' 1
              have sf2 := frozen_cells hrw1' 2
              dsimp only [slv, zP] at s0 s1 s2
              have HRF := Lib.hid (ty_cells hrF)
              have hresl : w.heap.size + 1 < w1.heap.size := (Array.getElem?_eq_some_iff.1 hrw1').1
              have hlwY0 : w.heap.size < Y.heap.size := by omega
              have HFIN := Lib.hid hfin
              have HFF := Lib.hid (And.intro hF hF2)
              have zf0 := zf (L.length * 3)
              have zf1 := zf (L.length * 3 + 1)
              have zf2 := zf (L.length * 3 + 2)
              have hq0 : (0 : Int) ≤ (L.length : Int) := by omega
              have hq1 : (L.length : Int) < (L.length : Int) + 1 := by omega
              have HYY := Lib.hid hY
              clear hfin hkF hrF hrw1' hfinS hfinK hF hF2 hkY hrY htY hYs hYne hoY hRY hfY hstY hst7 hf7 ht7 hr7 hk7 hR7 ho7 e1 h7 hrow hv1 hv3 zf hY
              generalize hLL : L.length = q at *
              clear hLL
              go_upto_region 8 with fail
              refine wp_world (fun Z => Z = Y) HYY.out ?_
              rintro U rfl
              go_region
              all_goals
                go_wp2_with fail
                try rw [Exit.noGoto_ret]
                first
                  | exact bodyPost_ret (results_box_tmp2 (p := 4) (q := 5) (r := 6) rfl _ _ _ _ rfl (by rw [HFF.out.1]; exact put_ty 0 0 (none, 0, 0) HRF.out.1 HRF.out.2.1 HRF.out.2.2)) rfl (by rw [HFF.out.1]; exact HFIN.out)
                  | exact bodyPost_ret (results_box_tmp2 (p := 4) (q := 5) (r := 6) rfl _ _ _ _ rfl (by rw [HFF.out.2]; exact put_ty 0 0 (none, 0, 0) HRF.out.1 HRF.out.2.1 HRF.out.2.2)) rfl (by rw [HFF.out.2]; exact HFIN.out)
end Go.Proofs.YtjmbkkpglkbppaaDoor
