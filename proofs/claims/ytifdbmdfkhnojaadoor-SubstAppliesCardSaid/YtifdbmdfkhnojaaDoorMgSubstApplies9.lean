/- Texts of one proof, one behind the other. -/
import Derived.Test.YtifdbmdfkhnojaaDoorMgSubstApplies8
import Derived.Deep.RegionWith
/- types.tuplePieces. -/
namespace Go.Proofs.YtifdbmdfkhnojaaDoor
open Go.RowKit Go.Shelf
attribute [local go_sem ↓] builtin_app
theorem pcInfo : (Tryd.prog.info? 84).map (fun i => (i.zero, i.size, i.bytes)) = some (some (.agg #[.string ⟨#[]⟩, .int .i64 0, .int .i64 0, .slice none 0 0]), 4, 56) := by kernel_rfl
/-- An append of pieces. -/
theorem app_pc (W : World) (base : Nat) (v : Value) (L : List Pc) (own : W.ownsRow base 84 4 v L.length (L.flatMap pcC)) (vx : Value) (L2 : List Pc) (rd : Rd W 4 vx L2.length (L2.flatMap pcC)) (hl : L.length + L2.length ≤ 100000000) (hbase : base ≤ W.heap.size) :
    ∃ v' W', (app_ #[85, 85] 85 #[v, vx]).run Tryd.prog W = .ok v' W' ∧ W'.ownsRow base 84 4 v' (L ++ L2).length ((L ++ L2).flatMap pcC) ∧ Below base W W' ∧ KeepT 25 W W' ∧ W.grownBy W' v.ownBlock ∧ (v'.ownBlock = v.ownBlock ∨ v'.ownBlock = some W.heap.size) := by
  obtain ⟨i0, hi0, hz0, hz1, hz2⟩ := info_parts pcInfo
  obtain ⟨v1, w1, hrun, hown, hg, hat⟩ := run_append_rd (P := Tryd.prog) W base 85 85 84 i0 _ 4 56 Tryd.underlying85 hi0 hz0 hz1 hz2 rfl (by omega) v _ _ own vx _ _ rd (pcC_one _) (by unfold maxLen; omega) (by omega) hbase
  refine ⟨v1, w1, hrun, ?_, (Below.refl _ _).grown hg hbase (fun k e => (own.lt k e).1), KeepT.grown hg (row_not own (by decide)), hg, hat⟩
  rw [List.length_append, List.flatMap_append]
  exact hown
/-- A tuple's pieces, but for its brackets. -/
def tupT : Bool → Fo → List Pc
  | _, .nil => []
  | b, .cons k n u ps r => (if b then [] else [pcS [32, 42, 32]]) ++ (brkP k n u ps ++ tupT false r)
theorem tupT_app (f g : Fo) (b : Bool) : tupT b (f.app g) = tupT b f ++ tupT (b && decide (f.len = 0)) g := by
  induction f generalizing b with
  | nil => simp [Fo.app, tupT, Fo.len]
  | cons k n u ps r _ ih => simp [Fo.app, tupT, Fo.len, ih]
theorem tupT_len (f : Fo) (b : Bool) : (tupT b f).length ≤ 4 * f.len := by
  induction f generalizing b with
  | nil => simp [tupT]
  | cons k n u ps r _ ih =>
    have h1 := brkP_len k n u ps
    have h2 := ih false
    simp only [tupT, List.length_append, Fo.len]
    split <;> simp <;> omega
theorem tupT_pw (f : Fo) (b : Bool) : pws (tupT b f) ≤ 6 * f.size := by
  induction f generalizing b with
  | nil => simp [tupT, pws, Fo.size]
  | cons k n u ps r _ ih =>
    have h1 := brkP_pw k n u ps
    have h2 := ih false
    simp only [tupT, pws_app, Fo.size]
    split
    · simp [pws] at *; omega
    · simp [pws, pw] at *; omega
theorem tupT_txt (f : Fo) : (tupT true f).flatMap ptx = sepT f.txts ∧ (0 < f.len → (tupT false f).flatMap ptx = 32 :: 42 :: 32 :: sepT f.txts) := by
  induction f with
  | nil => exact ⟨rfl, fun h => by simp [Fo.len] at h⟩
  | cons k n u ps r _ ih =>
    have h1 := brkP_txt k n u ps
    have key : (brkP k n u ps ++ tupT false r).flatMap ptx = sepT (Fo.cons k n u ps r).txts := by
      rw [List.flatMap_append, h1]
      cases r with
      | nil => simp [tupT, Fo.txts, sepT]
      | cons k' n' u' ps' r' =>
        rw [ih.2 (by simp [Fo.len])]
        simp only [Fo.txts, sepT]
    refine ⟨by simpa [tupT] using key, fun _ => ?_⟩
    have : tupT false (Fo.cons k n u ps r) = pcS [32, 42, 32] :: (brkP k n u ps ++ tupT false r) := rfl
    rw [this, List.flatMap_cons, key, ptx_str]
    rfl
theorem tupT_ok {B : Nat} {w : World} {f : Fo} (hL : TyL B w f) (hok : f.ok = true) (b : Bool) : ∀ p ∈ tupT b f, PcOk B w p := by
  induction f generalizing b with
  | nil => intro p hp; simp [tupT] at hp
  | cons k n u ps r _ ih =>
    simp only [Fo.ok, Bool.and_eq_true] at hok
    intro p hp
    simp only [tupT, List.mem_append] at hp
    rcases hp with hp | hp | hp
    · split at hp
      · cases hp
      · obtain rfl := List.mem_singleton.1 hp
        exact PcOk.str _ _ _ (by simp)
    · exact brkP_ok ⟨hL.1, .inr ⟨hok.1.1, hok.1.2⟩, by simp⟩ p hp
    · exact ih hL.2 hok.2 false p hp
theorem own_below {w w' : World} {base : Nat} {e : TypeId} {size : Nat} {v : Value} {n : Nat} {xs : List Value} (h : w.ownsRow base e size v n xs) (hb : Below w.heap.size w w') : w'.ownsRow base e size v n xs := by
  refine ⟨h.1, ?_⟩
  rcases h.2 with h0 | ⟨g, cap, cur, h0, hbg, hg, hr⟩
  · exact .inl h0
  · exact .inr ⟨g, cap, cur, h0, hbg, (hb.block g (Array.getElem?_eq_some_iff.1 hg).1).trans hg, hr⟩
theorem len_take (f : Fo) (j : Nat) (hj : j ≤ f.len) : (f.take j).len = j := by
  induction f generalizing j with
  | nil => cases j <;> simp_all [Fo.take, Fo.len]
  | cons k n u ps r _ ih =>
    cases j with
    | zero => simp [Fo.take, Fo.len]
    | succ j => simp only [Fo.take, Fo.len] at hj ⊢; rw [ih j (by omega)]
set_option maxHeartbeats 1000000 in
set_option maxRecDepth 100000 in
theorem tuple_any (f : Fo) (vl : Value) (w : World) (hvl : TyV w.heap.size w f vl) (hf : f.len ≤ 1000000) : Calls Tryd.prog 71 #[vl] w fun e w' => ∃ v, e = .returned v ∧ w'.ownsRow w.heap.size 84 4 v ([pcS [40]] ++ tupT true f ++ [pcS [41]]).length (([pcS [40]] ++ tupT true f ++ [pcS [41]]).flatMap pcC) ∧ Below w.heap.size w w' := by
  obtain ⟨A, c, rfl⟩ := hvl.slice
  have H := Lib.hid hvl
  clear hvl
  have ho := own_new w 84 4 1 ([pcS [40]].flatMap pcC) rfl (by unfold maxLen; omega) w (Below.refl _ _)
  have hb := (Below.refl w.heap.size w).alloc (Nat.le_refl _) (.cells ([pcS [40]].flatMap pcC).toArray 84)
  have HO := Lib.hid ho
  have HB := Lib.hid hb
  clear ho hb
  obtain ⟨q, hq⟩ : ∃ q, f.len = q := ⟨_, rfl⟩
  rw [hq] at hf ⊢
  have HQ := Lib.hid hq
  clear hq
  go_enter Tryd.func71, Tryd.ntmps71
  go_wp2_with fail
  go_loopw [3, 10] (fun t3 t10 wr => ∃ j : Nat, j ≤ q ∧ t10 = .int .i64 j ∧ wr.ownsRow w.heap.size 84 4 t3 ([pcS [40]] ++ tupT true (f.take j)).length (([pcS [40]] ++ tupT true (f.take j)).flatMap pcC) ∧ Below w.heap.size w wr) (fun _ t _ => q - (intOf t).toNat)
  case atStart => exact ⟨0, Nat.zero_le _, rfl, by rw [Fo.take_zero]; exact HO.out, HB.out⟩
  case round =>
    obtain ⟨j, hj, rfl, hown, hbw⟩ := hrel
    have htl := tupT_len (f.take j) true
    have HBW := Lib.hid hbw
    have HOW := Lib.hid hown
    have hsW := hbw.size
    clear hbw hown
    by_cases hjl : j < q
    · have hjF : j < f.len := by rw [HQ.out]; exact hjl
      have htk := len_take f j (by omega)
      obtain ⟨b, off, cap, hv, _, _, hlt, hC⟩ := H.out.form (by omega)
      rw [HQ.out] at hv
      injection hv with hA _ hcc
      subst hA; subst hcc
      obtain ⟨d0, d1, d2, hch⟩ := tyC_at hC j hjF
      have c0 := (HBW.out.cell (p := ⟨b, off + j * 3, none⟩) hlt).trans d0
      have c1 := (HBW.out.cell (p := ⟨b, off + j * 3 + 1, none⟩) hlt).trans d1
      have c2 := (HBW.out.cell (p := ⟨b, off + j * 3 + 2, none⟩) hlt).trans d2
      have hts := f.take_step j hjF
      have htl1 : ([pcS [40]] ++ tupT true (f.take j)).length ≤ 5000000 := by simp; omega
      generalize f.at_ j = p at *
      obtain ⟨pk, pn, ⟨p1, p2, p3⟩, pf⟩ := p
      dsimp only [slv] at c0 c1 c2 hch hts
      obtain ⟨W0, hW0⟩ : ∃ W0, W0 = wr.alloc (.cells #[.int .i64 pk, .int .i64 pn, .slice p1 p2 p3] 25) := ⟨_, rfl⟩
      have hb0 : Below w.heap.size wr W0 := by rw [hW0]; exact (Below.refl _ _).alloc hsW _
      have hs0 : W0.heap.size = wr.heap.size + 1 := by rw [hW0]; simp
      have hx0 : W0.heap[wr.heap.size]? = some (.cells #[.int .i64 pk, .int .i64 pn, .slice p1 p2 p3] 25) := by rw [hW0]; exact heap_alloc_new wr _
      have own0 : W0.ownsRow w.heap.size 84 4 u3 ([pcS [40]] ++ tupT true (f.take j)).length (([pcS [40]] ++ tupT true (f.take j)).flatMap pcC) := by rw [hW0]; exact HOW.out.alloc _
      have hbl := brkP_len pk pn (p1, p2, p3) pf
      have HTS := Lib.hid hts
      have HTK := Lib.hid htk
      clear d0 d1 d2 hC hch hts htk
      rcases Nat.eq_zero_or_pos j with h0 | h0
      · have f1 : decide ((0 : Int) < (j : Int)) = false := decide_eq_false (by omega)
        have f1n : ¬ (0 < j) := by omega
        have hfin : ∀ (v2 : Value) (w2 : World), Below W0.heap.size W0 w2 → w2.ownsRow W0.heap.size 84 4 v2 (brkP pk pn (p1, p2, p3) pf).length ((brkP pk pn (p1, p2, p3) pf).flatMap pcC) →
            ∃ v3 w3, (app_ #[85, 85] 85 #[u3, v2]).run Tryd.prog w2 = .ok v3 w3 ∧ Hid (w3.ownsRow w.heap.size 84 4 v3 ([pcS [40]] ++ tupT true (f.take (j + 1))).length (([pcS [40]] ++ tupT true (f.take (j + 1))).flatMap pcC) ∧ Below w.heap.size w w3) := by
          intro v2 w2 hb2 hown2
          obtain ⟨v3, w3, hrun3, hown3, hb3, _⟩ := app_pc w2 w.heap.size u3 _ (own_below own0 hb2) v2 _ (Rd.of_own hown2) (by omega) (Nat.le_trans hsW (Nat.le_trans hb0.size hb2.size))
          refine ⟨v3, w3, hrun3, Lib.hid ⟨?_, HBW.out.trans (hb0.trans ((hb2.mono (Nat.le_trans hsW hb0.size)).trans hb3))⟩⟩
          have e : [pcS [40]] ++ tupT true (f.take (j + 1)) = [pcS [40]] ++ tupT true (f.take j) ++ brkP pk pn (p1, p2, p3) pf := by
            rw [HTS.out, tupT_app, HTK.out, h0]
            simp [tupT]
          rw [e]
          exact hown3
        have HFIN := Lib.hid hfin
        clear hfin own0 hx0 hb0 htl1 hbl h0
        rw [hW0] at HFIN
        go_wp2_with (go_at_call 70; refine (bracketed_any pk pn (p1, p2, p3) pf _).mono ?_; rintro e w2 ⟨v2, rfl, hown2, hb2⟩; obtain ⟨v3, w3, hrun3, HR⟩ := HFIN.out v2 w2 hb2 hown2; clear hown2 hb2)
        go_roundw
        case rel => exact ⟨j + 1, by omega, by go_num, HR.out.1, HR.out.2⟩
        case measure => simp [intOf]; omega
      · have f1 : decide ((0 : Int) < (j : Int)) = true := decide_eq_true (by omega)
        obtain ⟨W1, hW1⟩ : ∃ W1, W1 = W0.alloc (.cells #[.string ⟨#[32, 42, 32]⟩, .int .i64 0, .int .i64 0, .slice none 0 0] 84) := ⟨_, rfl⟩
        have rd1 : Rd W1 4 (.slice (some ⟨W0.heap.size, 0, none⟩) 1 1) 1 ([pcS [32, 42, 32]].flatMap pcC) := by
          rw [hW1]; exact rd_new W0 [.string ⟨#[32, 42, 32]⟩, .int .i64 0, .int .i64 0, .slice none 0 0] 84 4 1 rfl (by unfold maxLen; omega)
        have own1 := own0.alloc (.cells #[.string ⟨#[32, 42, 32]⟩, .int .i64 0, .int .i64 0, .slice none 0 0] 84)
        rw [← hW1] at own1
        have hb1 : Below W0.heap.size W0 W1 := by rw [hW1]; exact (Below.refl _ _).alloc (Nat.le_refl _) _
        obtain ⟨v1, w1, hrun1, hown1, hbw1, hkt1, _⟩ := app_pc W1 w.heap.size u3 _ own1 _ [pcS [32, 42, 32]] rd1 (by have h := htl1; simp at h ⊢; omega) (Nat.le_trans hsW (Nat.le_trans hb0.size hb1.size))
        have hx1 : w1.heap[wr.heap.size]? = some (.cells #[.int .i64 pk, .int .i64 pn, .slice p1 p2 p3] 25) := hkt1.2 _ _ ((hb1.block _ (by omega)).trans hx0)
        have y0 : w1.cell? ⟨wr.heap.size, 0, none⟩ = some (.int .i64 pk) := cell_of_row w1 _ 0 _ _ (0, 0) hx1
        have y1 : w1.cell? ⟨wr.heap.size, 1, none⟩ = some (.int .i64 pn) := cell_of_row w1 _ 1 _ _ (0, 0) hx1
        have y2 : w1.cell? ⟨wr.heap.size, 2, none⟩ = some (.slice p1 p2 p3) := cell_of_row w1 _ 2 _ _ (0, 0) hx1
        have hbb : Below w.heap.size wr w1 := hb0.trans ((hb1.mono (Nat.le_trans hsW hb0.size)).trans hbw1)
        have hfin : ∀ (v2 : Value) (w2 : World), Below w1.heap.size w1 w2 → w2.ownsRow w1.heap.size 84 4 v2 (brkP pk pn (p1, p2, p3) pf).length ((brkP pk pn (p1, p2, p3) pf).flatMap pcC) →
            ∃ v3 w3, (app_ #[85, 85] 85 #[v1, v2]).run Tryd.prog w2 = .ok v3 w3 ∧ Hid (w3.ownsRow w.heap.size 84 4 v3 ([pcS [40]] ++ tupT true (f.take (j + 1))).length (([pcS [40]] ++ tupT true (f.take (j + 1))).flatMap pcC) ∧ Below w.heap.size w w3) := by
          intro v2 w2 hb2 hown2
          obtain ⟨v3, w3, hrun3, hown3, hb3, _⟩ := app_pc w2 w.heap.size v1 _ (own_below hown1 hb2) v2 _ (Rd.of_own hown2) (by simp at htl1 ⊢; omega) (Nat.le_trans hsW (Nat.le_trans hbb.size hb2.size))
          refine ⟨v3, w3, hrun3, Lib.hid ⟨?_, HBW.out.trans (hbb.trans ((hb2.mono (Nat.le_trans hsW hbb.size)).trans hb3))⟩⟩
          have e : [pcS [40]] ++ tupT true (f.take (j + 1)) = [pcS [40]] ++ tupT true (f.take j) ++ [pcS [32, 42, 32]] ++ brkP pk pn (p1, p2, p3) pf := by
            rw [HTS.out, tupT_app, HTK.out]
            have : ¬ j = 0 := by omega
            simp [tupT, this]
          rw [e]
          exact hown3
        have HFIN := Lib.hid hfin
        rw [hW1, hW0] at hrun1
        rw [World.size_alloc] at hrun1
        clear hfin own0 hx0 hb0 htl1 hbl own1 rd1 hown1 hbw1 hkt1 hx1 hbb hb1 hW1 hW0
        go_wp2_with (go_at_call 70; refine (bracketed_any pk pn (p1, p2, p3) pf _).mono ?_; rintro e w2 ⟨v2, rfl, hown2, hb2⟩; obtain ⟨v3, w3, hrun3, HR⟩ := HFIN.out v2 w2 hb2 hown2; clear hown2 hb2)
        go_roundw
        case rel => exact ⟨j + 1, by omega, by go_num, HR.out.1, HR.out.2⟩
        case measure => simp [intOf]; omega
    · obtain rfl : j = q := by omega
      have hT : f.take j = f := by rw [← HQ.out]; exact f.take_len
      obtain ⟨W1, hW1⟩ : ∃ W1, W1 = wr.alloc (.cells #[.string ⟨#[41]⟩, .int .i64 0, .int .i64 0, .slice none 0 0] 84) := ⟨_, rfl⟩
      have rd1 : Rd W1 4 (.slice (some ⟨wr.heap.size, 0, none⟩) 1 1) 1 ([pcS [41]].flatMap pcC) := by
        rw [hW1]; exact rd_new wr [.string ⟨#[41]⟩, .int .i64 0, .int .i64 0, .slice none 0 0] 84 4 1 rfl (by unfold maxLen; omega)
      have own1 := HOW.out.alloc (.cells #[.string ⟨#[41]⟩, .int .i64 0, .int .i64 0, .slice none 0 0] 84)
      rw [← hW1, hT] at own1
      rw [hT] at htl
      have hb1 : Below w.heap.size wr W1 := by rw [hW1]; exact (Below.refl _ _).alloc hsW _
      obtain ⟨v1, w1, hrun1, hown1, hbw1, _⟩ := app_pc W1 w.heap.size u3 _ own1 _ [pcS [41]] rd1 (by have := HQ.out; simp; omega) (Nat.le_trans hsW hb1.size)
      have HF := Lib.hid (And.intro hown1 (HBW.out.trans (hb1.trans hbw1)))
      rw [hW1] at hrun1
      clear own1 rd1 hown1 hbw1 hb1 hW1 hT
      go_wp2_with fail
      go_ret
      exact ⟨_, rfl, HF.out.1, HF.out.2⟩
end Go.Proofs.YtifdbmdfkhnojaaDoor
/- types.pieces. -/
namespace Go.Proofs.YtifdbmdfkhnojaaDoor
open Go.RowKit Go.Shelf
attribute [local go_sem ↓] builtin_app
attribute [local go_sem] Oper.semAt_some
/-- What pieces gives. -/
def PcsOf (B : Nat) (k n : Int) (ps : Fo) (w w' : World) (v : Value) : Prop := ∃ L : List Pc, w'.ownsRow w.heap.size 84 4 v L.length (L.flatMap pcC) ∧ Below w.heap.size w w' ∧ L.flatMap ptx = oneT k n ps.txts ∧ pws L < (if k = 0 then 1 else 3 + 6 * ps.size) ∧ (∀ p ∈ L, PcOk B w p) ∧ L.length ≤ 5000000
theorem nameB_len (n : Int) : (nameB n).length ≤ 40 := by
  unfold nameB
  split
  · rename_i h
    simp only [Bool.and_eq_true, decide_eq_true_eq] at h
    have := Lib.itoa_length_le (n / 26) (by omega) (by omega)
    split <;> simp <;> omega
  · simp
theorem one_pc (B : Nat) (k n : Int) (ps : Fo) (w W : World) (s : List UInt8) (hs : s.length ≤ 40) (hb : Below w.heap.size w W) (ht : oneT k n ps.txts = s) (hk : k ≠ 0) :
    PcsOf B k n ps w (W.alloc (.cells #[strB s, .int .i64 0, .int .i64 0, .slice none 0 0] 84)) (.slice (some ⟨W.heap.size, 0, none⟩) 1 1) := by
  refine ⟨[pcS s], ?_, hb.trans ((Below.refl _ _).alloc hb.size _), by rw [List.flatMap_cons, ptx_str, ht]; simp, ?_, ?_, by simp⟩
  · exact own_new W 84 4 1 ([pcS s].flatMap pcC) rfl (by unfold maxLen; omega) w hb
  · rw [if_neg hk]; simp [pws, pw]; omega
  · intro p hp
    obtain rfl := List.mem_singleton.1 hp
    exact PcOk.str _ _ _ hs
set_option maxHeartbeats 2000000 in
set_option maxRecDepth 100000 in
theorem pieces4 (B : Nat) (n : Int) (u : Sl) (ps : Fo) (w : World) (ha : alone 4 n ps.len = true) (ho : ps.ok = true) (hB_ : B ≤ w.heap.size) (hps : TyV B w ps (slv u)) :
    Calls Tryd.prog 56 #[tyVal 4 n (slv u)] w fun e w' => ∃ v, e = .returned v ∧ PcsOf B 4 n ps w w' v := by
  obtain ⟨u1, u2, u3⟩ := u
  have hb := (Below.refl w.heap.size w).alloc (Nat.le_refl _) (.cells #[.int .i64 4, .int .i64 n, .slice u1 u2 u3] 25)
  dsimp only [tyVal, slv] at hps ⊢
  refine (callsIn_wide (n := 3)).1 ?_
  refine callsIn_of_wp Tryd.func56 rfl trivial ?_ rfl
  simp only [Tryd.ntmps56, List.size_toArray, List.length_cons, List.length_nil, Nat.reduceAdd, Nat.reduceSub, Array.replicate_succ, Array.replicate_zero, List.push_toArray, List.append_toArray, List.nil_append, List.cons_append]
  have hl2 : ps.len = 2 := by
    simp [alone] at ha
    omega
  obtain ⟨k0, n0, ⟨a1, a2, a3⟩, ps0, k1, n1, ⟨b1, b2, b3⟩, ps1, rfl⟩ : ∃ k0 n0 ua ps0 k1 n1 ub ps1, ps = .cons k0 n0 ua ps0 (.cons k1 n1 ub ps1 .nil) := by
    match ps, hl2 with
    | .cons k0 n0 ua ps0 (.cons k1 n1 ub ps1 .nil), _ => exact ⟨_, _, _, _, _, _, _, _, rfl⟩
    | .cons _ _ _ _ (.cons _ _ _ _ (.cons _ _ _ _ r)), h => simp [Fo.len] at h
  obtain ⟨b, off, cap, hv, hc1, hc2, hlt, hC⟩ := hps.form (by rw [hl2]; omega)
  rw [hl2] at hv
  injection hv with hA hB hcc
  subst hA; subst hB; subst hcc
  replace hlt := Nat.lt_of_lt_of_le hlt hB_
  obtain ⟨d0, d1, d2, e1, hC2⟩ := tyC_cons.1 hC
  obtain ⟨d3, d4, d5, e2, _⟩ := tyC_cons.1 hC2
  simp only [Fo.ok, Bool.and_eq_true] at ho
  obtain ⟨W, hW⟩ : ∃ W, W = w.alloc (.cells #[.int .i64 4, .int .i64 n, .slice (some ⟨b, off, none⟩) 2 u3] 25) := ⟨_, rfl⟩
  rw [← hW] at hb
  have c0 := (hb.cell (p := ⟨b, off, none⟩) hlt).trans d0
  have c1 := (hb.cell (p := ⟨b, off + 1, none⟩) hlt).trans d1
  have c2 := (hb.cell (p := ⟨b, off + 2, none⟩) hlt).trans d2
  have c3 := (hb.cell (p := ⟨b, off + 3, none⟩) hlt).trans d3
  have c4 := (hb.cell (p := ⟨b, off + 3 + 1, none⟩) hlt).trans d4
  have c5 := (hb.cell (p := ⟨b, off + 3 + 2, none⟩) hlt).trans d5
  dsimp only [slv] at c2 c5 d2 d5
  -- the two that come behind
  have hL2 : ∀ (W0 w2 : World) (v2 vx : Value), Below W.heap.size W W0 → Below W0.heap.size W0 w2 → w2.ownsRow W0.heap.size 84 4 v2 (brkP k0 n0 (a1, a2, a3) ps0).length ((brkP k0 n0 (a1, a2, a3) ps0).flatMap pcC) → Rd w2 4 vx 2 ([pcS [32, 45, 62, 32], pcT k1 n1 (b1, b2, b3) ps1].flatMap pcC) →
      ∃ v3 w3, (app_ #[85, 85] 85 #[v2, vx]).run Tryd.prog w2 = .ok v3 w3 ∧ Hid (PcsOf B 4 n (.cons k0 n0 (a1, a2, a3) ps0 (.cons k1 n1 (b1, b2, b3) ps1 .nil)) w w3 v3) := by
    intro W0 w2 v2 vx hb0 hb2 hown2 hrd
    have hz := brkP_len k0 n0 (a1, a2, a3) ps0
    have hown2' : w2.ownsRow w.heap.size 84 4 v2 (brkP k0 n0 (a1, a2, a3) ps0).length ((brkP k0 n0 (a1, a2, a3) ps0).flatMap pcC) := by
      refine ⟨hown2.1, ?_⟩
      rcases hown2.2 with h | ⟨g, cp, cur, h1, h2, h3⟩
      · exact .inl h
      · exact .inr ⟨g, cp, cur, h1, Nat.le_trans (Nat.le_trans hb.size hb0.size) h2, h3⟩
    have hw2 : Below w.heap.size w w2 := hb.trans ((hb0.mono hb.size).trans (hb2.mono (Nat.le_trans hb.size hb0.size)))
    obtain ⟨v3, w3, hrun3, hown3, hb3, _⟩ := app_pc w2 w.heap.size v2 _ hown2' vx [pcS [32, 45, 62, 32], pcT k1 n1 (b1, b2, b3) ps1] hrd (by simp; omega) hw2.size
    refine ⟨v3, w3, hrun3, Lib.hid ⟨_, hown3, hw2.trans hb3, ?_, ?_, ?_, by simp; omega⟩⟩
    · rw [List.flatMap_append, brkP_txt]
      simp [Fo.txts, oneT, ptx]
    · rw [pws_app, if_neg (by omega)]
      have h1 := brkP_pw k0 n0 (a1, a2, a3) ps0
      have hp1 : pw (pcS [32, 45, 62, 32]) = 1 := by simp [pw]
      have hp2 : pw (pcT k1 n1 (b1, b2, b3) ps1) ≤ 3 + 6 * ps1.size := by simp only [pw]; split <;> omega
      simp only [pws, List.map_cons, List.map_nil, List.sum_cons, List.sum_nil, Fo.size] at h1 ⊢
      omega
    · intro p hp
      rcases List.mem_append.1 hp with hp | hp
      · exact brkP_ok ⟨e1, .inr ⟨ho.1.1, ho.1.2⟩, by simp⟩ p hp
      · simp only [List.mem_cons, List.not_mem_nil, or_false] at hp
        rcases hp with rfl | rfl
        · exact PcOk.str _ _ _ (by simp)
        · exact ⟨e2, .inr ⟨ho.2.1.1, ho.2.1.2⟩, by simp⟩
  have HL2 := Lib.hid hL2
  have HBB := Lib.hid hb
  have HWW := Lib.hid hW
  clear hps hC hC2 d0 d1 d2 d3 d4 d5 e1 e2 hL2 ha ho hb hc1 hc2 hl2
  rw [hW] at c0 c1 c2 c3 c4 c5
  clear hW
  have c4' : (w.alloc (.cells #[.int .i64 4, .int .i64 n, .slice (some ⟨b, off, none⟩) 2 u3] 25)).cell? ⟨b, off + 4, none⟩ = some (.int .i64 n1) := c4
  have c5' : (w.alloc (.cells #[.int .i64 4, .int .i64 n, .slice (some ⟨b, off, none⟩) 2 u3] 25)).cell? ⟨b, off + 5, none⟩ = some (.slice b1 b2 b3) := c5
  have hWs : W.heap.size = w.heap.size + 1 := by rw [HWW.out]; simp
  have hMM : ∀ w2 : World, Below W.heap.size W w2 → w2.cell? ⟨w.heap.size, 2, none⟩ = some (.slice (some ⟨b, off, none⟩) 2 u3) ∧ w2.cell? ⟨b, off + 3, none⟩ = some (.int .i64 k1) ∧ w2.cell? ⟨b, off + 4, none⟩ = some (.int .i64 n1) ∧ w2.cell? ⟨b, off + 5, none⟩ = some (.slice b1 b2 b3) := by
    intro w2 h
    have hlt2 : b < W.heap.size := by omega
    refine ⟨(h.cell (p := ⟨w.heap.size, 2, none⟩) (by simp only; omega)).trans ?_, (h.cell (p := ⟨b, off + 3, none⟩) hlt2).trans ?_, (h.cell (p := ⟨b, off + 4, none⟩) hlt2).trans ?_, (h.cell (p := ⟨b, off + 5, none⟩) hlt2).trans ?_⟩
    · rw [HWW.out]; exact cell_of_row _ w.heap.size 2 _ _ (0, 0) (heap_alloc_new w _)
    · rw [HWW.out]; exact c3
    · rw [HWW.out]; exact c4
    · rw [HWW.out]; exact c5
  -- the slice laid behind the call
  have hBA : ∀ (v2 : Value) (w2 : World), Below W.drew.heap.size W.drew w2 → w2.ownsRow W.drew.heap.size 84 4 v2 (brkP k0 n0 (a1, a2, a3) ps0).length ((brkP k0 n0 (a1, a2, a3) ps0).flatMap pcC) →
      w2.cell? ⟨w.heap.size, 2, none⟩ = some (.slice (some ⟨b, off, none⟩) 2 u3) ∧ w2.cell? ⟨b, off + 3, none⟩ = some (.int .i64 k1) ∧ w2.cell? ⟨b, off + 4, none⟩ = some (.int .i64 n1) ∧ w2.cell? ⟨b, off + 5, none⟩ = some (.slice b1 b2 b3) ∧ ∃ v3 w3, (app_ #[85, 85] 85 #[v2, .slice (some ⟨w2.heap.size, 0, none⟩) 2 2]).run Tryd.prog (w2.alloc (.cells #[.string ⟨#[32, 45, 62, 32]⟩, .int .i64 0, .int .i64 0, .slice none 0 0, .string ⟨#[]⟩, .int .i64 k1, .int .i64 n1, .slice b1 b2 b3] 84)) = .ok v3 w3 ∧ Hid (PcsOf B 4 n (.cons k0 n0 (a1, a2, a3) ps0 (.cons k1 n1 (b1, b2, b3) ps1 .nil)) w w3 v3) := by
    intro v2 w2 hb2 hown2
    obtain ⟨m0, m1, m2, m3⟩ := hMM w2 ((Below.refl _ W).drew.trans hb2)
    refine ⟨m0, m1, m2, m3, ?_⟩
    refine HL2.out W.drew _ v2 _ (Below.refl _ W).drew (hb2.alloc hb2.size _) (hown2.alloc _) ?_
    exact rd_new w2 ([pcS [32, 45, 62, 32], pcT k1 n1 (b1, b2, b3) ps1].flatMap pcC) 84 4 2 rfl (by unfold maxLen; omega)
  -- the slice laid ahead of it
  have hAB : ∀ (v2 : Value) (w2 : World), Below (W.alloc (.cells #[.string ⟨#[32, 45, 62, 32]⟩, .int .i64 0, .int .i64 0, .slice none 0 0, .string ⟨#[]⟩, .int .i64 k1, .int .i64 n1, .slice b1 b2 b3] 84)).drew.heap.size (W.alloc (.cells #[.string ⟨#[32, 45, 62, 32]⟩, .int .i64 0, .int .i64 0, .slice none 0 0, .string ⟨#[]⟩, .int .i64 k1, .int .i64 n1, .slice b1 b2 b3] 84)).drew w2 → w2.ownsRow (W.alloc (.cells #[.string ⟨#[32, 45, 62, 32]⟩, .int .i64 0, .int .i64 0, .slice none 0 0, .string ⟨#[]⟩, .int .i64 k1, .int .i64 n1, .slice b1 b2 b3] 84)).drew.heap.size 84 4 v2 (brkP k0 n0 (a1, a2, a3) ps0).length ((brkP k0 n0 (a1, a2, a3) ps0).flatMap pcC) →
      w2.cell? ⟨w.heap.size, 2, none⟩ = some (.slice (some ⟨b, off, none⟩) 2 u3) ∧ w2.cell? ⟨b, off + 3, none⟩ = some (.int .i64 k1) ∧ w2.cell? ⟨b, off + 4, none⟩ = some (.int .i64 n1) ∧ w2.cell? ⟨b, off + 5, none⟩ = some (.slice b1 b2 b3) ∧ ∃ v3 w3, (app_ #[85, 85] 85 #[v2, .slice (some ⟨w.heap.size + 1, 0, none⟩) 2 2]).run Tryd.prog w2 = .ok v3 w3 ∧ Hid (PcsOf B 4 n (.cons k0 n0 (a1, a2, a3) ps0 (.cons k1 n1 (b1, b2, b3) ps1 .nil)) w w3 v3) := by
    intro v2 w2 hb2 hown2
    obtain ⟨m0, m1, m2, m3⟩ := hMM w2 ((((Below.refl _ W).alloc (Nat.le_refl _) _).drew).trans (hb2.mono (by show W.heap.size ≤ (W.alloc _).heap.size; simp)))
    refine ⟨m0, m1, m2, m3, ?_⟩
    refine HL2.out (W.alloc (.cells #[.string ⟨#[32, 45, 62, 32]⟩, .int .i64 0, .int .i64 0, .slice none 0 0, .string ⟨#[]⟩, .int .i64 k1, .int .i64 n1, .slice b1 b2 b3] 84)).drew w2 v2 _ ((Below.refl _ W).alloc (Nat.le_refl _) _).drew hb2 hown2 ?_
    rw [← hWs]
    have hr : Rd (W.alloc (.cells #[.string ⟨#[32, 45, 62, 32]⟩, .int .i64 0, .int .i64 0, .slice none 0 0, .string ⟨#[]⟩, .int .i64 k1, .int .i64 n1, .slice b1 b2 b3] 84)).drew 4 (.slice (some ⟨W.heap.size, 0, none⟩) 2 2) 2 ([pcS [32, 45, 62, 32], pcT k1 n1 (b1, b2, b3) ps1].flatMap pcC) := (rd_new W ([pcS [32, 45, 62, 32], pcT k1 n1 (b1, b2, b3) ps1].flatMap pcC) 84 4 2 rfl (by unfold maxLen; omega)).drew
    exact hr.below hb2
  rw [HWW.out] at hBA hAB
  have HBA := Lib.hid hBA
  have HAB := Lib.hid hAB
  clear hBA hAB hWs hMM
  have hmix : Tryd.prog.follows Departure.mixedOrders = true := by kernel_rfl
  gi_wp2
  gi_region_with_o (refine ⟨trivial, ?_⟩; gi_at_call 70; refine (callsIn_wide.2 (bracketed_any k0 n0 (a1, a2, a3) ps0 _)).mono ?_; rintro e w2 ⟨v2, rfl, hown2, hb2⟩; (first | (have hh := HBA.out v2 w2 hb2 hown2) | (have hh := HAB.out v2 w2 hb2 hown2)); obtain ⟨m0, m1, m2, m3, v3, w3, hrun3, HR⟩ := hh)
  all_goals gi_wp2
  all_goals
    refine bodyPost_ret (results_tmp rfl _ _ _) rfl ?_
    exact ⟨_, rfl, HR.out⟩
set_option maxHeartbeats 2000000 in
set_option maxRecDepth 100000 in
theorem pieces_any (B : Nat) (k n : Int) (u : Sl) (ps : Fo) (w : World) (hok : k = 0 ∧ ps = .nil ∨ alone k n ps.len = true ∧ ps.ok = true) (hB_ : B ≤ w.heap.size) (hps : TyV B w ps (slv u)) (ht : Tab w) (hs : ps.size < 1000000) :
    Calls Tryd.prog 56 #[tyVal k n (slv u)] w fun e w' => ∃ v, e = .returned v ∧ PcsOf B k n ps w w' v := by
  obtain ⟨u1, u2, u3⟩ := u
  have hll := ps.len_le_size
  have hb := (Below.refl w.heap.size w).alloc (Nat.le_refl _) (.cells #[.int .i64 k, .int .i64 n, .slice u1 u2 u3] 25)
  by_cases h4 : k = 4
  · subst h4
    obtain ⟨ha, ho⟩ := hok.resolve_left (by rintro ⟨h, _⟩; omega)
    exact pieces4 B n (u1, u2, u3) ps w ha ho hB_ hps
  dsimp only [tyVal, slv] at hps ⊢
  go_enter Tryd.func56, Tryd.ntmps56
  by_cases h1 : k = 1
  · subst h1
    have HN := Lib.hid (name_any n (w.alloc (.cells #[.int .i64 1, .int .i64 n, .slice u1 u2 u3] 25)) (ht.below hb))
    have HB := Lib.hid hb
    clear hok hps ht hb
    go_wp2_with (go_at_call 69; refine HN.out.mono ?_; rintro e w2 ⟨rfl, hb2⟩)
    go_ret
    exact ⟨_, rfl, one_pc B 1 n ps w w2 (nameB n) (nameB_len n) (HB.out.trans (hb2.mono HB.out.size)) (by simp [oneT]) (by omega)⟩
  by_cases h2 : k = 2
  · subst h2
    have hp := one_pc B 2 n ps w (w.alloc (.cells #[.int .i64 2, .int .i64 n, .slice u1 u2 u3] 25)) [105, 110, 116] (by simp) hb (by simp [oneT]) (by omega)
    rw [World.size_alloc] at hp
    have HP := Lib.hid hp
    clear hp hok hps ht hb
    go_wp2_with fail
    go_ret
    exact ⟨_, rfl, HP.out⟩
  by_cases h3 : k = 3
  · subst h3
    have hp := one_pc B 3 n ps w (w.alloc (.cells #[.int .i64 3, .int .i64 n, .slice u1 u2 u3] 25)) [98, 111, 111, 108] (by simp) hb (by simp [oneT]) (by omega)
    rw [World.size_alloc] at hp
    have HP := Lib.hid hp
    clear hp hok hps ht hb
    go_wp2_with fail
    go_ret
    exact ⟨_, rfl, HP.out⟩
  by_cases h5 : k = 5
  · subst h5
    obtain ⟨ha, ho⟩ := hok.resolve_left (by rintro ⟨h, _⟩; omega)
    have HC := Lib.hid (tuple_any ps (.slice u1 u2 u3) (w.alloc (.cells #[.int .i64 5, .int .i64 n, .slice u1 u2 u3] 25)) (hps.keep (Nat.le_trans hB_ hb.size) fun b off hlt => hb.cell (p := ⟨b, off, none⟩) (Nat.lt_of_lt_of_le hlt hB_)) (by omega))
    have hfin : ∀ (v : Value) (w2 : World), w2.ownsRow (w.alloc (.cells #[.int .i64 5, .int .i64 n, .slice u1 u2 u3] 25)).heap.size 84 4 v ([pcS [40]] ++ tupT true ps ++ [pcS [41]]).length (([pcS [40]] ++ tupT true ps ++ [pcS [41]]).flatMap pcC) → Below (w.alloc (.cells #[.int .i64 5, .int .i64 n, .slice u1 u2 u3] 25)).heap.size (w.alloc (.cells #[.int .i64 5, .int .i64 n, .slice u1 u2 u3] 25)) w2 → PcsOf B 5 n ps w w2 v := by
      intro v w2 hown hb2
      refine ⟨_, ⟨hown.1, ?_⟩, hb.trans (hb2.mono hb.size), ?_, ?_, ?_, by have := tupT_len ps true; simp; omega⟩
      · rcases hown.2 with h | ⟨g, cp, cur, h1, h2, h3⟩
        · exact .inl h
        · exact .inr ⟨g, cp, cur, h1, Nat.le_trans hb.size h2, h3⟩
      · rw [List.flatMap_append, List.flatMap_append, (tupT_txt ps).1]
        simp [oneT, ptx]
      · rw [pws_app, pws_app, if_neg (by omega)]
        have := tupT_pw ps true
        simp [pws, pw] at this ⊢
        omega
      · intro p hp
        rcases List.mem_append.1 hp with hp | hp
        · rcases List.mem_append.1 hp with hp | hp
          · obtain rfl := List.mem_singleton.1 hp
            exact PcOk.str _ _ _ (by simp)
          · exact tupT_ok hps.list ho true p hp
        · obtain rfl := List.mem_singleton.1 hp
          exact PcOk.str _ _ _ (by simp)
    have HF := Lib.hid hfin
    clear hfin hps hok ha ho ht hb
    go_wp2_with (go_at_call 71; refine HC.out.mono ?_; rintro e w2 ⟨v, rfl, hown, hb2⟩)
    go_ret
    exact ⟨_, rfl, HF.out _ _ hown hb2⟩
  rcases hok with ⟨h0, rfl⟩ | ⟨h6, _⟩
  · subst h0
    have hp : PcsOf B 0 n .nil w (w.alloc (.cells #[.int .i64 0, .int .i64 n, .slice u1 u2 u3] 25)) (.slice none 0 0) := ⟨[], ⟨rfl, .inl ⟨rfl, rfl⟩⟩, hb, by simp [oneT], by simp [pws], (fun p hp => by cases hp), by simp⟩
    have HP := Lib.hid hp
    clear hp hps ht hb h1 h2 h3 h4 h5
    go_wp2_with fail
    go_ret
    exact ⟨_, rfl, HP.out⟩
  · exfalso
    simp [alone, h1, h2, h3, h4, h5] at h6
end Go.Proofs.YtifdbmdfkhnojaaDoor
