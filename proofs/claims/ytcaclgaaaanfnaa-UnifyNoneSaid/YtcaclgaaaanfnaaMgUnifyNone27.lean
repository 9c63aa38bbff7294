/- Texts of one proof, one behind the other. -/
import Derived.Test.YtcaclgaaaanfnaaMgUnifyNone26
import Derived.Test.YtcaclgaaaanfnaaMgUnifyNone6
import Derived.Deep.RegionWith
import Derived.Test.YtcaclgaaaanfnaaMgUnifyNone8
/- unify: a variable's kind; whether two are in one class. -/
namespace Go.Proofs.Ytcaclgaaaanfnaa
open Go.RowKit
open Un (Else StM rowI UFo own_else dg swp wp_world paint)
set_option maxRecDepth 100000
section
variable {O T : Nat → Prop} {w w' : World} {cb : Nat} {A : Adr} {st : Int} {cl : Bool} {n : Nat} {G : List Gn} {kn : Kn} {nx col ro col' ro' : Nat → Nat} {fs fs' : Int}
/-- The class's root of a variable, if there is such a one. -/
def rootV (G : List Gn) (ro : Nat → Nat) (v : Int) : Option Nat := (gvar G v).map ro
theorem cpart_rt (h : ClM O w cb A st cl n G kn nx col ro fs) (hst : 0 ≤ fs ∧ fs ≤ 10000000000000) (v : Int) (hv : (Lit.int .i64 v).wf = true) (hn : ∀ i, gvar G v = some i → i < n) :
    Calls Try.prog 23 #[.pointer (some ⟨cb, 0, none⟩), .int .i64 v] w fun e w' => ∃ k : Nat, e = .returned (.tuple #[ptV ((rootV G ro v).map fun _ => cb) (((rootV G ro v).getD 0 : Nat) : Int), .bool (rootV G ro v).isSome]) ∧ k ≤ dg n ∧ ClM O w' cb A st cl n G kn nx col ro (fs + k) ∧ Else A.S w w' := by
  refine (cpart_cl h hst v hv hn).mono ?_
  rintro e w' ⟨k, rfl, h1⟩
  refine ⟨k, ?_, h1⟩
  unfold rootV
  cases gvar G v <;> rfl
theorem ckind_cl (h : ClM O w cb A st false n G kn nx col ro fs) (hst : 0 ≤ fs ∧ fs ≤ 10000000000000) (v : Int) (hv : (Lit.int .i64 v).wf = true) (hn : ∀ i, gvar G v = some i → i < n) :
    Calls Try.prog 32 #[.pointer (some ⟨cb, 0, none⟩), .int .i64 v] w fun e w' => ∃ k : Nat, e = .returned (.int .i64 (match rootV G ro v with | some r => kindO G (kn r).1 | none => 0)) ∧ k ≤ dg n ∧ ClM O w' cb A st false n G kn nx col ro (fs + k) ∧ Else A.S w w' := by
  have HP := cpart_rt h hst v hv hn
  have HH := Lib.hid h
  have hroot : ∀ r, rootV G ro v = some r → r < n := by
    intro r hr
    unfold rootV at hr
    obtain ⟨i, hi, rfl⟩ := Option.map_eq_some_iff.1 hr
    have hin := hn i hi
    exact ((h.stm (by omega)).uf.roots hin).1
  clear h
  cases hr : rootV G ro v with
  | none =>
    rw [hr] at HP
    clear hr hroot
    simp only [ptV, Option.map_none, Option.getD_none, Option.isSome_none] at HP
    go_enter Try.func32, Try.ntmps32
    go_wp2_with fail
    refine HP.mono ?_
    rintro e w2 ⟨k, rfl, hk, hC, hE⟩
    have HF := Lib.hid (And.intro hk (And.intro hC hE))
    clear hk hC hE HP
    go_wp2_with fail
    refine (show Calls _ _ #[.agg #[.pointer none, .int .i64 0]] _ _ from kind_zero _).mono ?_
    rintro e w3 ⟨rfl, hb⟩
    have HB := Lib.hid hb
    clear hb
    go_wp2_with fail
    obtain ⟨hk, hC, hE⟩ := HF.out
    have hb2 := ((Below.refl _ w2).alloc (Nat.le_refl _) _).trans (HB.out.mono (by simp))
    exact bodyPost_ret (results_tmp rfl _ _ _) rfl ⟨k, rfl, hk, hC.below hb2, hE.trans (Else.of_below hb2)⟩
  | some r =>
    rw [hr] at HP
    have hrn := hroot r hr
    clear hr hroot
    simp only [ptV, Option.map_some, Option.getD_some, Option.isSome_some] at HP
    go_enter Try.func32, Try.ntmps32
    go_wp2_with fail
    refine HP.mono ?_
    rintro e w2 ⟨k, rfl, hk, hC, hE⟩
    have hb1 : Below w2.heap.size w2 (w2.alloc (.cells #[.pointer (some ⟨cb, 0, none⟩), .int .i64 (r : Nat)] 57)) := (Below.refl _ w2).alloc (Nat.le_refl _) _
    have HK := pkind_cl (hC.below hb1) r hrn
    have HF := Lib.hid (And.intro hk (And.intro hC (And.intro hE hb1)))
    clear hk hC hE HP hb1
    go_wp2_with fail
    refine (show Calls _ _ #[.agg #[.pointer (some ⟨cb, 0, none⟩), .int .i64 (r : Nat)]] _ _ from HK).mono ?_
    rintro e w3 ⟨rfl, hb⟩
    have HB := Lib.hid hb
    clear hb HK
    go_wp2_with fail
    obtain ⟨hk, hC, hE, hb1⟩ := HF.out
    have hb2 := hb1.trans (HB.out.mono (by simp))
    exact bodyPost_ret (results_tmp rfl _ _ _) rfl ⟨k, rfl, hk, hC.below hb2, hE.trans (Else.of_below hb2)⟩
set_option maxHeartbeats 1000000 in
theorem same_cl (h : ClM O w cb A st cl n G kn nx col ro fs) (hst : 0 ≤ fs ∧ fs ≤ 1000000000000) (hdg : dg n ≤ 21) (a b : Int) (ha : (Lit.int .i64 a).wf = true) (hb : (Lit.int .i64 b).wf = true) (hna : ∀ i, gvar G a = some i → i < n) (hnb : ∀ i, gvar G b = some i → i < n) :
    Calls Try.prog 25 #[.pointer (some ⟨cb, 0, none⟩), .int .i64 a, .int .i64 b] w fun e w' => ∃ k : Nat, e = .returned (.bool ((rootV G ro a).isSome && (rootV G ro b).isSome && rootV G ro a == rootV G ro b)) ∧ k ≤ 2 * dg n ∧ ClM O w' cb A st cl n G kn nx col ro (fs + k) ∧ Else A.S w w' := by
  have HP := cpart_rt h (by omega) a ha hna
  clear h
  rcases hra : rootV G ro a with _ | ra <;> rcases hrb : rootV G ro b with _ | rb
  all_goals
    rw [hra] at HP
    simp only [ptV, Option.map_none, Option.getD_none, Option.isSome_none, Option.map_some, Option.getD_some, Option.isSome_some] at HP
    go_enter Try.func25, Try.ntmps25
    go_wp2_with fail
    refine HP.mono ?_
    rintro e w2 ⟨k, rfl, hk, hC, hE⟩
    have HQ := fun x : Obj => cpart_rt (w := w2.alloc x) (hC.below ((Below.refl _ w2).alloc (Nat.le_refl _) _)) (show 0 ≤ fs + k ∧ fs + k ≤ 10000000000000 by omega) b hb hnb
    rw [hrb] at HQ
    simp only [ptV, Option.map_none, Option.getD_none, Option.isSome_none, Option.map_some, Option.getD_some, Option.isSome_some] at HQ
    have HSB := Lib.hid hC.sb
    have HF := Lib.hid (And.intro hk (And.intro hC hE))
    have HQH := Lib.hid HQ
    clear hk hC hE HP HQ
    go_wp2_with fail
    refine (HQH.out _).mono ?_
    rintro e w3 ⟨k2, rfl, hk2, hC2, hE2⟩
  · have HZ := Lib.hid (And.intro hk2 (And.intro hC2 hE2))
    clear hk2 hC2 hE2 HQH HSB
    go_wp2_with fail
    obtain ⟨hk, hC, hE⟩ := HF.out
    obtain ⟨hk2, hC2, hE2⟩ := HZ.out
    have hb3 := (Below.refl _ w3).alloc (Nat.le_refl _) (.cells #[.pointer none, .int .i64 0] 57)
    refine bodyPost_ret (results_tmp rfl _ _ _) rfl ⟨k + k2, rfl, by omega, by have h5 := hC2.below hb3; rwa [show fs + (k : Int) + (k2 : Int) = fs + ((k + k2 : Nat) : Int) by omega] at h5, ((hE.trans (Else.of_below ((Below.refl _ w2).alloc (Nat.le_refl _) _))).trans hE2).trans (Else.of_below hb3)⟩
  · have HZ := Lib.hid (And.intro hk2 (And.intro hC2 hE2))
    clear hk2 hC2 hE2 HQH HSB
    go_wp2_with fail
    obtain ⟨hk, hC, hE⟩ := HF.out
    obtain ⟨hk2, hC2, hE2⟩ := HZ.out
    have hb3 := (Below.refl _ w3).alloc (Nat.le_refl _) (.cells #[.pointer (some ⟨cb, 0, none⟩), .int .i64 (rb : Nat)] 57)
    refine bodyPost_ret (results_tmp rfl _ _ _) rfl ⟨k + k2, rfl, by omega, by have h5 := hC2.below hb3; rwa [show fs + (k : Int) + (k2 : Int) = fs + ((k + k2 : Nat) : Int) by omega] at h5, ((hE.trans (Else.of_below ((Below.refl _ w2).alloc (Nat.le_refl _) _))).trans hE2).trans (Else.of_below hb3)⟩
  · have HZ := Lib.hid (And.intro hk2 (And.intro hC2 hE2))
    clear hk2 hC2 hE2 HQH HSB
    go_wp2_with fail
    obtain ⟨hk, hC, hE⟩ := HF.out
    obtain ⟨hk2, hC2, hE2⟩ := HZ.out
    have hb3 := (Below.refl _ w3).alloc (Nat.le_refl _) (.cells #[.pointer none, .int .i64 0] 57)
    refine bodyPost_ret (results_tmp rfl _ _ _) rfl ⟨k + k2, rfl, by omega, by have h5 := hC2.below hb3; rwa [show fs + (k : Int) + (k2 : Int) = fs + ((k + k2 : Nat) : Int) by omega] at h5, ((hE.trans (Else.of_below ((Below.refl _ w2).alloc (Nat.le_refl _) _))).trans hE2).trans (Else.of_below hb3)⟩
  · have hx := (hE2.block w2.heap.size (by simp) fun hx => Nat.lt_irrefl _ (HSB.out _ hx)).trans (heap_alloc_new w2 _)
    have d1 : (w3.alloc (.cells #[.pointer (some ⟨cb, 0, none⟩), .int .i64 (rb : Nat)] 57)).cell? ⟨w2.heap.size, 1, none⟩ = some (.int .i64 (ra : Nat)) := cell_of_row _ _ 1 _ _ (0, 0) ((Below.heap_alloc w3 _ _ (Array.getElem?_eq_some_iff.1 hx).1).trans hx)
    clear hx
    by_cases hab : ra = rb
    · have f1 : ((ra : Int) == (rb : Int)) = true := by subst hab; simp
      have HZ := Lib.hid (And.intro hk2 (And.intro hC2 hE2))
      clear hk2 hC2 hE2 HQH HSB
      go_wp2_with fail
      obtain ⟨hk, hC, hE⟩ := HF.out
      obtain ⟨hk2, hC2, hE2⟩ := HZ.out
      have hb3 := (Below.refl _ w3).alloc (Nat.le_refl _) (.cells #[.pointer (some ⟨cb, 0, none⟩), .int .i64 (rb : Nat)] 57)
      refine bodyPost_ret (results_tmp rfl _ _ _) rfl ⟨k + k2, by simp [hab], by omega, by have h5 := hC2.below hb3; rwa [show fs + (k : Int) + (k2 : Int) = fs + ((k + k2 : Nat) : Int) by omega] at h5, ((hE.trans (Else.of_below ((Below.refl _ w2).alloc (Nat.le_refl _) _))).trans hE2).trans (Else.of_below hb3)⟩
    · have f1 : ((ra : Int) == (rb : Int)) = false := by simp; omega
      have HZ := Lib.hid (And.intro hk2 (And.intro hC2 hE2))
      clear hk2 hC2 hE2 HQH HSB
      go_wp2_with fail
      obtain ⟨hk, hC, hE⟩ := HF.out
      obtain ⟨hk2, hC2, hE2⟩ := HZ.out
      have hb3 := (Below.refl _ w3).alloc (Nat.le_refl _) (.cells #[.pointer (some ⟨cb, 0, none⟩), .int .i64 (rb : Nat)] 57)
      refine bodyPost_ret (results_tmp rfl _ _ _) rfl ⟨k + k2, by simp [hab], by omega, by have h5 := hC2.below hb3; rwa [show fs + (k : Int) + (k2 : Int) = fs + ((k + k2 : Nat) : Int) by omega] at h5, ((hE.trans (Else.of_below ((Below.refl _ w2).alloc (Nat.le_refl _) _))).trans hE2).trans (Else.of_below hb3)⟩
end
end Go.Proofs.Ytcaclgaaaanfnaa
/- The guard of the laws: is there room for a type? -/
namespace Go.Proofs.Ytcaclgaaaanfnaa
open Go.RowKit

/-- What room gives. -/
def RoomIs (n deep : Nat) (f : Fo) (r : Int) : Prop :=
  -1 ≤ r ∧ r ≤ n ∧ (0 ≤ r → 1 + (f.size : Int) + r = n ∧ 1 + f.depth ≤ deep) ∧ (1 + f.size ≤ n → 1 + f.depth ≤ deep → r = (n : Int) - (1 + f.size))
theorem RoomIs.zero (n : Nat) (f : Fo) : RoomIs n 0 f (-1) := ⟨by omega, by omega, by omega, by omega⟩
theorem RoomIs.none (deep : Nat) (f : Fo) : RoomIs 0 deep f (-1) := ⟨by omega, by omega, by omega, by omega⟩
end Go.Proofs.Ytcaclgaaaanfnaa
/- unify's laws: is there room for a type? -/
namespace Go.Proofs.Ytcaclgaaaanfnaa
open Go.RowKit

set_option maxHeartbeats 1000000 in
set_option maxRecDepth 100000 in
theorem room12 (deep : Nat) : ∀ (f : Fo) (k n0 : Int) (v : Value) (n : Nat) (w : World), deep ≤ 40 → n ≤ 300 → TyV w.heap.size w f v →
    Calls Try.prog 65 #[tyVal k n0 v, .int .i64 n, .int .i64 deep] w fun e w' => ∃ r, e = .returned (.int .i64 r) ∧ Below w.heap.size w w' ∧ RoomIs n deep f r := by
  induction deep with
  | zero =>
    intro f k n0 v n w hd hn h
    obtain ⟨A, c, rfl⟩ := h.slice
    clear h
    unfold tyVal
    go_enter Try.func65, Try.ntmps65
    go_wp2_with fail
    go_ret
    exact ⟨_, rfl, (Below.refl _ _).alloc (Nat.le_refl _) _, RoomIs.zero n f⟩
  | succ deep ih =>
    intro f k n0 v n w hd hn h
    obtain ⟨A, c, rfl⟩ := h.slice
    have H := Lib.hid h
    have IH := Lib.hid ih
    have hml : f.len ≤ maxLen := by
      rcases Nat.eq_zero_or_pos f.len with h0 | h0
      · omega
      · obtain ⟨_, _, cap, _, h1, h2, _⟩ := h.form h0
        exact Nat.le_trans h1 h2
    replace hml : f.len ≤ 9223372036854775807 := by unfold maxLen at hml; omega
    clear h ih
    rw [show (((deep + 1 : Nat)) : Int) = (deep : Int) + 1 from by omega]
    unfold tyVal
    go_enter Try.func65, Try.ntmps65
    have HB0 := Lib.hid (show ∀ (cs : Array Value) (t : TypeId), Below w.heap.size w (w.alloc (Obj.cells cs t)) from fun cs t => (Below.refl _ w).alloc (Nat.le_refl _) _)
    have f1 : ((deep : Int) + 1 == 0) = false := beq_eq_false_iff_ne.2 (by omega)
    go_wp2_with fail
    go_loopw [1, 7] (fun t1 t7 wr => ∃ (j : Nat) (r : Int), j ≤ f.len ∧ t7 = .int .i64 j ∧ t1 = .int .i64 r ∧ RoomIs n (deep + 1) (f.take j) r ∧ wr.cell? ⟨w.heap.size, 2, none⟩ = some (.slice A f.len c) ∧ Below w.heap.size w wr ∧ w.heap.size + 1 ≤ wr.heap.size) (fun _ t _ => f.len - (intOf t).toNat)
    case atStart =>
      refine ⟨0, (n : Int) - 1, Nat.zero_le _, rfl, by go_num, ?_, by go_simp, HB0.out _ _, by simp⟩
      unfold RoomIs
      simp only [Fo.take_zero, Fo.size, Fo.depth]
      omega
    case round =>
      obtain ⟨j, r, hj, rfl, rfl, hr, e2, hb, hz⟩ := hrel
      have HB := Lib.hid hb
      have HR := Lib.hid hr
      have hr0 : -1 ≤ r ∧ r ≤ n := ⟨hr.1, hr.2.1⟩
      clear hb hr
      by_cases hjl : j < f.len
      · by_cases hr1 : 0 ≤ r
        · obtain ⟨rn, rfl⟩ := Int.eq_ofNat_of_zero_le hr1
          obtain ⟨b, off, cap, hv, _, _, hlt, hC⟩ := H.out.form (by omega)
          injection hv with hA _ hcc
          subst hA; subst hcc
          obtain ⟨d0, d1, d2, hch⟩ := tyC_at hC j hjl
          have c0 := (HB.out.cell (p := ⟨b, off + j * 3, none⟩) hlt).trans d0
          have c1 := (HB.out.cell (p := ⟨b, off + j * 3 + 1, none⟩) hlt).trans d1
          have c2 := (HB.out.cell (p := ⟨b, off + j * 3 + 2, none⟩) hlt).trans d2
          have hch' : TyV wr.heap.size wr (f.at_ j).2.2.2 (slv (f.at_ j).2.2.1) := hch.keep HB.out.size fun b off hb' => HB.out.cell (p := ⟨b, off, none⟩) hb'
          have HST := Lib.hid (f.size_take_step j hjl)
          have HDT := Lib.hid (f.depth_take_step j hjl)
          have hrec := IH.out (f.at_ j).2.2.2 (f.at_ j).1 (f.at_ j).2.1 (slv (f.at_ j).2.2.1) rn wr (by omega) (by omega) hch'
          clear d0 d1 d2 hC hch hch'
          unfold tyVal at hrec
          generalize f.at_ j = p at *
          obtain ⟨pk, pn, pv, pf⟩ := p
          dsimp only [slv] at hrec c0 c1 c2
          have HREC := Lib.hid hrec
          clear hrec
          have f2 : decide ((0 : Int) ≤ rn) = true := decide_eq_true hr1
          go_wp2_with fail
          refine HREC.out.mono ?_
          rintro e w2 ⟨r2, rfl, hb3, hr2⟩
          have e2' := (hb3.cell (p := ⟨w.heap.size, 2, none⟩) (by show w.heap.size < wr.heap.size; omega)).trans e2
          have HB3 := Lib.hid hb3
          have HR2 := Lib.hid hr2
          clear hb3 hr2
          go_wp2_with fail
          go_roundw
          case rel =>
            refine ⟨j + 1, r2, by omega, by go_num, rfl, ?_, e2', HB.out.trans (HB3.out.mono (by omega)), Nat.le_trans hz HB3.out.size⟩
            have h1 := HR.out
            have h2 := HR2.out
            have h3 := HST.out
            have h4 := HDT.out
            unfold RoomIs at h1 h2 ⊢
            omega
          case measure => simp [intOf]; omega
        · have f2 : decide ((0 : Int) ≤ r) = false := decide_eq_false hr1
          have HTL := Lib.hid (f.size_take_le j)
          have HDL := Lib.hid (f.depth_take_le j)
          go_wp2_with fail
          go_ret
          refine ⟨_, rfl, HB.out, ?_⟩
          have h1 := HR.out
          have h3 := HTL.out
          have h4 := HDL.out
          unfold RoomIs at h1 ⊢
          omega
      · obtain rfl : j = f.len := by omega
        have HT : Hid (f.take f.len = f) := Lib.hid f.take_len
        go_wp2_with fail
        go_ret
        refine ⟨_, rfl, HB.out, ?_⟩
        have h1 := HR.out
        rwa [HT.out] at h1
set_option maxHeartbeats 1000000 in
/-- Is there more than is asked of? -/
theorem big12 (f : Fo) (k n0 : Int) (v : Value) (w : World) (h : TyV w.heap.size w f v) :
    Calls Try.prog 34 #[tyVal k n0 v] w fun e w' => e = .returned (.bool (!(decide (1 + f.size ≤ 100) && decide (1 + f.depth ≤ 30)))) ∧ Below w.heap.size w w' := by
  obtain ⟨A, c, rfl⟩ := h.slice
  obtain ⟨w1, hw1⟩ : ∃ w1, w.alloc (Obj.cells #[.int .i64 k, .int .i64 n0, .slice A f.len c] 36) = w1 := ⟨_, rfl⟩
  have hb1 : Below w.heap.size w w1 := by rw [← hw1]; exact (Below.refl _ _).alloc (Nat.le_refl _) _
  have hs1 := hb1.size
  have hc := room12 30 f k n0 (.slice A f.len c) 100 w1 (by omega) (by omega) (h.keep hs1 fun b off hb' => hb1.cell (p := ⟨b, off, none⟩) hb')
  rw [← hw1] at hc
  have HC := Lib.hid hc
  have HB1 := Lib.hid hb1
  have HW1 := Lib.hid hw1
  clear h hc hs1 hb1 hw1
  unfold tyVal at HC ⊢
  go_enter Try.func34, Try.ntmps34
  go_wp2_with fail
  refine HC.out.mono ?_
  rintro e w' ⟨r, rfl, hb, hr⟩
  have hd : decide (r < 0) = !(decide (1 + f.size ≤ 100) && decide (1 + f.depth ≤ 30)) := by
    unfold RoomIs at hr
    by_cases h1 : r < 0
    · have : ¬ (1 + f.size ≤ 100 ∧ 1 + f.depth ≤ 30) := by omega
      rw [decide_eq_true h1]
      simp only [← Bool.decide_and, decide_eq_false this]
      rfl
    · have : 1 + f.size ≤ 100 ∧ 1 + f.depth ≤ 30 := by omega
      rw [decide_eq_false h1]
      simp only [← Bool.decide_and, decide_eq_true this]
      rfl
  have HD := Lib.hid hd
  rw [HW1.out] at hb
  have HB := Lib.hid (show Below w.heap.size w w' from HB1.out.trans (hb.mono HB1.out.size))
  clear hd hr hb
  go_wp2_with fail
  go_ret
  exact ⟨ret_bool HD.out, HB.out⟩
end Go.Proofs.Ytcaclgaaaanfnaa
/- UnifyNone, walked, given what awake owes. -/
namespace Go.Proofs.Ytcaclgaaaanfnaa
open Go.RowKit
open Un (Else)
set_option maxRecDepth 100000
/-- Of no equations none can't come in. -/
theorem first_none (w : World) : Calls Try.prog 11 #[.slice none 0 0] w fun e w' => e = .returned (.tuple #[.int .i64 0, .int .i64 0]) ∧ Below w.heap.size w w' := by
  have HN := new_cl w
  go_enter Try.func11, Try.ntmps11
  go_wp2_with fail
  refine HN.mono ?_
  rintro e w2 ⟨cb, A, rfl, _, hb⟩
  have HB := Lib.hid hb
  clear hb HN
  go_wp2_with fail
  go_loopw [11] (fun s wr => s = .int .i64 0 ∧ wr = w2) (fun _ _ => 0)
  case atStart => exact ⟨rfl, rfl⟩
  case round =>
    obtain ⟨rfl, rfl⟩ := hrel
    go_wp2_with fail
    exact bodyPost_ret (results_tmp2 rfl _ _ _) rfl ⟨rfl, HB.out⟩
set_option maxHeartbeats 4000000 in
theorem unone_law (HAW : ∀ W : World, Calls Try.prog 10 #[] W fun e w' => e = .returned (.bool true) ∧ Below W.heap.size W w')
    (w : World) (k n k' n' : Int) (F F' : Fo) (u u' : Sl) (v : Int) (hF : TyV w.heap.size w F (slv u)) (hF' : TyV w.heap.size w F' (slv u')) :
    Calls Try.prog 6 #[tyVal k n (slv u), tyVal k' n' (slv u'), .int .i64 v] w fun e w' => e = .returned (.bool true) ∧ Below w.heap.size w w' := by
  obtain ⟨u1, u2, u3⟩ := u
  obtain ⟨v1, v2, v3⟩ := u'
  obtain ⟨w1, hw1⟩ : ∃ w1, (w.alloc (.cells #[.int .i64 k, .int .i64 n, .slice u1 u2 u3] 36)).alloc (.cells #[.int .i64 k', .int .i64 n', .slice v1 v2 v3] 36) = w1 := ⟨_, rfl⟩
  have hb1 : Below w.heap.size w w1 := by rw [← hw1]; exact ((Below.refl _ _).alloc (Nat.le_refl _) _).alloc (by simp) _
  have hA1 : w1.heap[w.heap.size]? = some (.cells #[.int .i64 k, .int .i64 n, .slice u1 u2 u3] 36) := by rw [← hw1]; exact (Below.heap_alloc _ _ _ (by simp)).trans (heap_alloc_new _ _)
  have hB1 : w1.heap[w.heap.size + 1]? = some (.cells #[.int .i64 k', .int .i64 n', .slice v1 v2 v3] 36) := by rw [← hw1]; have h := heap_alloc_new (w.alloc (.cells #[.int .i64 k, .int .i64 n, .slice u1 u2 u3] 36)) (.cells #[.int .i64 k', .int .i64 n', .slice v1 v2 v3] 36); simp only [World.size_alloc] at h; exact h
  have hlt : w.heap.size + 1 < w1.heap.size := (Array.getElem?_eq_some_iff.1 hB1).1
  have HT : Hid (∀ W, Below w.heap.size w W → TyV W.heap.size W F (.slice u1 u2 u3) ∧ TyV W.heap.size W F' (.slice v1 v2 v3)) := Lib.hid fun W hb => ⟨(hF.below hb).keep hb.size fun _ _ _ => rfl, (hF'.below hb).keep hb.size fun _ _ _ => rfl⟩
  have HX : Hid (∀ W, Below w1.heap.size w1 W → ((W.cell? ⟨w.heap.size, 0, none⟩ = some (.int .i64 k) ∧ W.cell? ⟨w.heap.size, 1, none⟩ = some (.int .i64 n) ∧ W.cell? ⟨w.heap.size, 2, none⟩ = some (.slice u1 u2 u3)) ∧ W.cell? ⟨w.heap.size + 1, 0, none⟩ = some (.int .i64 k') ∧ W.cell? ⟨w.heap.size + 1, 1, none⟩ = some (.int .i64 n') ∧ W.cell? ⟨w.heap.size + 1, 2, none⟩ = some (.slice v1 v2 v3)) ∧ Below w.heap.size w W) := Lib.hid fun W hb =>
    have a := (hb.block w.heap.size (by omega)).trans hA1
    have b := (hb.block (w.heap.size + 1) hlt).trans hB1
    ⟨⟨⟨cell_of_row W _ 0 _ _ (0, 0) a, cell_of_row W _ 1 _ _ (0, 0) a, cell_of_row W _ 2 _ _ (0, 0) a⟩, cell_of_row W _ 0 _ _ (0, 0) b, cell_of_row W _ 1 _ _ (0, 0) b, cell_of_row W _ 2 _ _ (0, 0) b⟩, hb1.trans (hb.mono (by omega))⟩
  have HA := Lib.hid HAW
  have HB : Hid (Below w1.heap.size w1 w1) := Lib.hid (Below.refl _ _)
  obtain ⟨⟨⟨x0, x1, x2⟩, y0, y1, y2⟩, hb1'⟩ := HX.out w1 (Below.refl _ _)
  have hT := (HT.out w1 hb1').1
  have hg := big12 F k n _ w1 hT
  obtain ⟨gr, hgr⟩ : ∃ gr, (!(decide (1 + F.size ≤ 100) && decide (1 + F.depth ≤ 30))) = gr := ⟨_, rfl⟩
  rw [hgr] at hg
  have HG := Lib.hid hg
  clear hg hgr hT hb1' hF hF' hb1 hA1 hB1 HAW
  dsimp only [tyVal, slv] at HG ⊢
  go_enter Try.func6, Try.ntmps6
  go_wp2_with fail
  refine HG.out.mono ?_
  rintro e w2 ⟨rfl, hb2⟩
  have HB2 := Lib.hid hb2
  clear hb2 x0 x1 x2 y0 y1 y2 HG
  obtain ⟨⟨⟨x0, x1, x2⟩, y0, y1, y2⟩, hbw⟩ := HX.out w2 HB2.out
  have hT := (HT.out w2 hbw).2
  have hg := big12 F' k' n' _ w2 hT
  obtain ⟨gr2, hgr2⟩ : ∃ gr, (!(decide (1 + F'.size ≤ 100) && decide (1 + F'.depth ≤ 30))) = gr := ⟨_, rfl⟩
  rw [hgr2] at hg
  dsimp only [tyVal] at hg
  have HG := Lib.hid hg
  have HBW := Lib.hid hbw
  clear hg hgr2 hT hbw
  cases gr
  · go_wp2_with fail
    refine HG.out.mono ?_
    rintro e w3 ⟨rfl, hb3⟩
    have HB3 := Lib.hid (HB2.out.trans (hb3.mono HB2.out.size))
    clear hb3 x0 x1 x2 y0 y1 y2 HG
    cases gr2
    · go_wp2_with fail
      refine (cparts_none w3 v).mono ?_
      rintro e w4 ⟨rfl, hb4⟩
      have HB4 := Lib.hid (show Below w1.heap.size w1 w4 from HB3.out.trans (hb4.mono HB3.out.size))
      clear hb4
      go_wp2_with fail
      refine (cpart_none w4 v).mono ?_
      rintro e w5 ⟨rfl, hb5⟩
      have HB5 := Lib.hid (show Below w1.heap.size w1 w5 from HB4.out.trans (hb5.mono HB4.out.size))
      clear hb5
      unfold ptV
      go_wp2_with fail
      refine (first_none _).mono ?_
      rintro e w6 ⟨rfl, hb6⟩
      have HB6 := Lib.hid (show Below w1.heap.size w1 w6 from (HB5.out.alloc HB5.out.size _).trans (hb6.mono (by have := HB5.out.size; simp; omega)))
      clear hb6
      obtain ⟨⟨⟨x0, x1, x2⟩, y0, y1, y2⟩, _⟩ := HX.out w6 HB6.out
      go_wp2_with fail
      refine (show Calls _ _ #[.pointer none, .agg #[.int .i64 k, .int .i64 n, .slice u1 u2 u3], .agg #[.int .i64 k', .int .i64 n', .slice v1 v2 v3]] _ _ from equate_none w6 k n k' n' (u1, u2, u3) (v1, v2, v3)).mono ?_
      rintro e w7 ⟨rfl, hb7⟩
      have HB7 := Lib.hid (show Below w1.heap.size w1 w7 from HB6.out.trans (hb7.mono HB6.out.size))
      clear hb7
      clear x0 x1 x2 y0 y1 y2
      go_wp2_with fail
      refine (err_none w7).mono ?_
      rintro e w8 ⟨rfl, rfl⟩
      go_wp2_with fail
      refine (same_none _ v v).mono ?_
      rintro e w9 ⟨rfl, hb9⟩
      have HB9 := Lib.hid (show Below w1.heap.size w1 w9 from HB7.out.trans (hb9.mono HB7.out.size))
      clear hb9
      go_wp2_with fail
      refine (ckind_none w9 v).mono ?_
      rintro e w10 ⟨rfl, hb10⟩
      have HB10 := Lib.hid (show Below w1.heap.size w1 w10 from HB9.out.trans (hb10.mono HB9.out.size))
      clear hb10
      go_wp2_with fail
      refine (cvars_none w10).mono ?_
      rintro e w11 ⟨rfl, rfl⟩
      go_wp2_with fail
      refine (class_none _ v).mono ?_
      rintro e w12 ⟨rfl, hb12⟩
      have HB12 := Lib.hid (show Below w1.heap.size w1 w12 from HB10.out.trans (hb12.mono HB10.out.size))
      clear hb12
      go_wp2_with fail
      refine (steps_none w12).mono ?_
      rintro e w13 ⟨rfl, rfl⟩
      go_wp2_with fail
      refine (HA.out _).mono ?_
      rintro e w14 ⟨rfl, hb14⟩
      have HB14 := Lib.hid (show Below w1.heap.size w1 w14 from HB12.out.trans (hb14.mono HB12.out.size))
      clear hb14
      go_wp2_with fail
      exact bodyPost_ret (results_tmp rfl _ _ _) rfl ⟨rfl, (HX.out w14 HB14.out).2⟩
    · go_wp2_with fail
      refine (HA.out w3).mono ?_
      rintro e w4 ⟨rfl, hb4⟩
      have HB4 := Lib.hid hb4
      clear hb4
      go_wp2_with fail
      have hw3 := (HX.out w3 HB3.out).2
      exact bodyPost_ret (results_tmp rfl _ _ _) rfl ⟨rfl, hw3.trans (HB4.out.mono hw3.size)⟩
  · go_wp2_with fail
    refine (HA.out w2).mono ?_
    rintro e w4 ⟨rfl, hb4⟩
    have HB4 := Lib.hid hb4
    clear hb4
    go_wp2_with fail
    exact bodyPost_ret (results_tmp rfl _ _ _) rfl ⟨rfl, HBW.out.trans (HB4.out.mono HBW.out.size)⟩
end Go.Proofs.Ytcaclgaaaanfnaa
/- types.Arrow. -/
namespace Go.Proofs.Ytcaclgaaaanfnaa
open Go.RowKit Go.Shelf
attribute [local go_sem] Oper.semAt_some

/-- Three cells, stored. -/
theorem set3 {T : TypeId} {w : World} (g : Nat) (x y z k n u : Value) (hg : w.heap[g]? = some (Obj.cells #[x, y, z] T)) :
    w.cell? ⟨g, 0, none⟩ = some x ∧ w.cell? ⟨g, 1, none⟩ = some y ∧ w.cell? ⟨g, 2, none⟩ = some z ∧ w.frozen? ⟨g, 0, none⟩ = false ∧ w.frozen? ⟨g, 1, none⟩ = false ∧ w.frozen? ⟨g, 2, none⟩ = false ∧
    ∃ w', ((w.setCell ⟨g, 0, none⟩ k).setCell ⟨g, 1, none⟩ n).setCell ⟨g, 2, none⟩ u = w' ∧ w'.heap[g]? = some (Obj.cells #[k, n, u] T) ∧ w'.heap.size = w.heap.size ∧ (∀ b, b ≠ g → w'.heap[b]? = w.heap[b]?) ∧ Below g w w' := by
  refine ⟨cell_of_row w g 0 _ _ (0, 0) hg, cell_of_row w g 1 _ _ (0, 0) hg, cell_of_row w g 2 _ _ (0, 0) hg, frozen_cells hg 0, frozen_cells hg 1, frozen_cells hg 2, _, rfl, ?_, by simp [World.setCell], fun b hne => ?_, ?_⟩
  · exact heap_setCell_same _ g 2 _ T u (heap_setCell_same _ g 1 _ T n (heap_setCell_same w g 0 _ T k hg))
  · rw [Below.heap_setCell _ _ _ _ (by simpa using hne), Below.heap_setCell _ _ _ _ (by simpa using hne), Below.heap_setCell _ _ _ _ (by simpa using hne)]
  · exact (((Below.refl g w).setCell (p := ⟨g, 0, none⟩) (Nat.le_refl g) _).setCell (p := ⟨g, 1, none⟩) (Nat.le_refl g) _).setCell (p := ⟨g, 2, none⟩) (Nat.le_refl g) _
/-- What stands between the rounds. -/
def ArInv (w : World) (vl : Value) (f : Fo) (j : Nat) (W : World) : Prop :=
  (∃ u : Sl, W.heap[w.heap.size + 2]? = some (Obj.cells #[.int .i64 (f.drop (f.len - j)).arrF.1, .int .i64 (f.drop (f.len - j)).arrF.2.1, slv u] 36) ∧ FreshT 36 (w.heap.size + 3) W idn (f.drop (f.len - j)).arrF.2.2 u) ∧
    Boxed W w.heap.size 34 vl ∧ W.heap[w.heap.size + 1]? = some (Obj.cells rt0 36) ∧ Below w.heap.size w W
theorem ArInv.kept {w : World} {vl : Value} {f : Fo} {j : Nat} {W W' : World} (h : ArInv w vl f j W) (hs : W.heap.size ≤ W'.heap.size) (hk : ∀ (b : Nat) (cs : Array Value) (t : TypeId), t ≠ 165 → W.heap[b]? = some (Obj.cells cs t) → W'.heap[b]? = some (Obj.cells cs t)) (hb : Below w.heap.size w W') : ArInv w vl f j W' := by
  obtain ⟨⟨u, hu, hf⟩, hx, hr, _⟩ := h
  exact ⟨⟨u, hk _ _ _ (by decide) hu, hf.to hs fun b cs _ hc => hk _ _ _ (by decide) hc⟩, hk _ _ _ (by decide) hx, hk _ _ _ (by decide) hr, hb⟩
theorem ArInv.own {w : World} {vl : Value} {f : Fo} (B : Nat) (hB : w.heap.size ≤ B) : OwnFrom B (fun (pre : List (Int × Tr)) W => ArInv w vl f pre.length W) := by
  intro s W W' row hs hg hr
  have hb : Below w.heap.size w W' := ⟨hg.os.trans hs.2.2.2.os, hg.tape.trans hs.2.2.2.tape, hg.output.trans hs.2.2.2.output, Nat.le_trans hs.2.2.2.size hg.size, fun k hk => (hg.block k (Nat.lt_of_lt_of_le hk hs.2.2.2.size) (fun e => by have := (hr k e.symm).1; omega)).trans (hs.2.2.2.block k hk)⟩
  refine hs.kept hg.size (fun b cs t _ hc => (hg.block b (Array.getElem?_eq_some_iff.1 hc).1 fun e => ?_).trans hc) hb
  obtain ⟨o, ho, hoc⟩ := (hr b e.symm).2
  rw [hc] at ho
  cases ho
  cases hoc
theorem ArInv.ab {w : World} {vl : Value} {f : Fo} (B : Nat) (hB : w.heap.size ≤ B) : AbC B 165 (fun (pre : List (Int × Tr)) W => ArInv w vl f pre.length W) := by
  intro s W W' hs hc
  have hb : Below w.heap.size w W' := hs.2.2.2.trans (hc.below hB hs.2.2.2.size)
  obtain ⟨row, hg, hr⟩ := hc
  refine hs.kept hg.size (fun b cs t hne hcc => (hg.block b (Array.getElem?_eq_some_iff.1 hcc).1 fun e => ?_).trans hcc) hb
  obtain ⟨_, cs', hc'⟩ := hr b e.symm
  rw [hcc] at hc'
  cases hc'
  exact hne rfl
/-- A round, put together. -/
theorem ar_fin {w : World} {vl : Value} {f : Fo} {pre : List (Int × Tr)} {x : Int × Tr} {W W3 W4 : World} {k n : Int} {u : Sl} {o : Array Value} (hi : ArInv w vl f pre.length W) (h3 : Below W.heap.size W W3) (h4 : W4.heap[w.heap.size + 2]? = some (Obj.cells #[.int .i64 k, .int .i64 n, slv u] 36)) (hs : W4.heap.size = W3.heap.size) (hfar : ∀ b, b ≠ w.heap.size + 2 → W4.heap[b]? = W3.heap[b]?) (hb4 : Below (w.heap.size + 2) W3 W4)
    (hk : k = (f.drop (f.len - (pre.length + 1))).arrF.1) (hn : n = (f.drop (f.len - (pre.length + 1))).arrF.2.1) (hf : FreshT 36 (w.heap.size + 3) W3 idn (f.drop (f.len - (pre.length + 1))).arrF.2.2 u)
    (_hW0 : W.heap[w.heap.size + 3]? = some (Obj.cells o 34)) (B0 : Nat) (hB0 : w.heap.size + 4 ≤ B0) (hBW : B0 ≤ W.heap.size) :
    KeepsFrom B0 W W4 ∧ KpB w.heap.size (w.heap.size + 3) W W4 ∧ ArInv w vl f (pre ++ [x]).length W4 := by
  have hz := h3.size
  have all : ∀ b, b < W.heap.size → b ≠ w.heap.size + 2 → W4.heap[b]? = W.heap[b]? := fun b hb hne => (hfar b hne).trans (h3.block b hb)
  have hbl : Below w.heap.size w W4 := (hi.2.2.2.trans (h3.mono (by omega))).trans (hb4.mono (by omega))
  refine ⟨⟨by omega, fun b o' hb ho _ => (all b (Array.getElem?_eq_some_iff.1 ho).1 (by omega)).trans ho⟩, ⟨(h3.mono (by omega)).trans (hb4.mono (by omega)), fun o' ho _ => (all _ (Array.getElem?_eq_some_iff.1 ho).1 (by omega)).trans ho⟩, ?_⟩
  rw [List.length_append, List.length_singleton]
  refine ⟨⟨u, by rw [← hk, ← hn]; exact h4, hf.to (by omega) fun b cs hb hc => (hfar b (by omega)).trans hc⟩, (all _ (by omega) (by omega)).trans hi.2.1, (all _ (by omega) (by omega)).trans hi.2.2.1, hbl⟩
end Go.Proofs.Ytcaclgaaaanfnaa
