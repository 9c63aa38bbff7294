/- The walk of the law SpanOrder, out of the contracts of what it calls. -/
import Derived.Test.YtlifkfihpmkffaaSpQ0
import Derived.Test.YtlifkfihpmkffaaSpX
import Derived.Test.YtlifkfihpmkffaaSpD
import Derived.Test.YtlifkfihpmkffaaSpU
import Derived.Deep.RegionHeld3
import Derived.IntWalk
namespace Go.Proofs.Ytlifkfihpmkffaa
open Go.RowKit Go.ChangeShapes Go.WideShapes Go.ChangeAt

/-- A slice of bytes. -/
def RdU (w : World) (v : Value) (xs : List Int) : Prop := Rd w 1 v xs.length (xs.map (Value.int .u8)) ∧ ∀ x ∈ xs, 0 ≤ x ∧ x < 256
def ArgU (w : World) (v : Value) : Prop := ∃ xs, RdU w v xs
set_option maxRecDepth 100000 in
theorem ArgU_open {H : Type} {enc : TypeId × Value → H} {W : World} {b0 : Nat} {v : Value} {d : DataW H} {p : List MemPlace} (hval : Value.okWide Try.prog W .any b0 42 v)
    (h : DataW.Trod enc Try.prog W 0 (fun _ => true) true 42 v d p) : ArgU W v := by
  obtain ⟨a0, len, cap, rfl⟩ := okWide_slice Try.underlying42 hval
  obtain ⟨fuel, hf⟩ := h
  rcases open_ints Try.underlying42 Try.underlying5 (by kernel_rfl) hf with ⟨hcs, _⟩ | ⟨a, len', cap', zs, hcs, _, hl, hm, hz, _, hcell, hwz⟩
  · simp [Value.cells] at hcs
    obtain ⟨rfl, rfl, rfl⟩ := hcs
    exact ⟨[], ⟨rfl, .inl ⟨rfl, _, _, rfl⟩⟩, by simp⟩
  · simp [Value.cells] at hcs
    obtain ⟨rfl, rfl, rfl⟩ := hcs
    simp only [if_true] at hz
    have hwf : ∀ x ∈ zs.take len, 0 ≤ x ∧ x < 256 := by
      intro x hx
      have := hwz x (List.mem_of_mem_take hx)
      simp [Lit.wf, IntKind.min, IntKind.max, IntKind.signed, IntKind.bits] at this
      omega
    by_cases h0 : len = 0
    · subst h0
      exact ⟨[], ⟨rfl, .inl ⟨rfl, _, _, rfl⟩⟩, by simp⟩
    · obtain ⟨b, off, spot⟩ := a
      have hc0 := hcell 0 (by omega)
      have hspot : spot = none := by simpa [Addr.add] using World.cell?_spot hc0
      subst hspot
      have hll : (zs.take len).length = len := by simp; omega
      refine ⟨zs.take len, ⟨by simp, .inr ⟨b, off, cap, by rw [hll], by omega, hm, World.block_lt_of_cell? W ⟨b, off, none⟩ (by simpa [Addr.add] using hc0), fun j u hj => ?_⟩⟩, hwf⟩
      have hjl : j < len := by
        have := (List.getElem?_eq_some_iff.1 hj).1
        simp at this
        omega
      have hcj := hcell j (by omega)
      rw [Addr.add_lit] at hcj
      rw [hcj, ← hj]
      simp [hjl, List.getD_eq_getElem?_getD, List.getElem?_eq_getElem (show j < zs.length by omega)]
theorem RdU.slice {w : World} {v : Value} {xs : List Int} (h : RdU w v xs) : ∃ A c, v = .slice A xs.length c := by
  rcases h.1.2 with ⟨h0, A, c, rfl⟩ | ⟨b, off, cap, rfl, _⟩
  · exact ⟨A, c, by rw [h0]⟩
  · exact ⟨_, _, rfl⟩
theorem RdU.form {w : World} {v : Value} {xs : List Int} (h : RdU w v xs) (hn : 0 < xs.length) : ∃ b off cap, v = .slice (some ⟨b, off, none⟩) xs.length cap ∧ b < w.heap.size ∧ ∀ i (hi : i < xs.length), w.cell? ⟨b, off + i, none⟩ = some (.int .u8 xs[i]) := by
  rcases h.1.2 with ⟨h0, _⟩ | ⟨b, off, cap, rfl, _, _, hlt, hc⟩
  · omega
  · exact ⟨b, off, cap, rfl, hlt, fun i hi => hc i _ (by simp [hi])⟩
theorem cov_mem {l : List Sp} {s : Sp} (h : s ∈ l) {i : Int} (h1 : s.1 ≤ i) (h2 : i < s.2) : Cov i l := ⟨s, h, h1, h2⟩
/-- The same spans, whatever their order and however often. -/
theorem cov_same {l m : List Sp} (h1 : ∀ s ∈ l, s ∈ m) (h2 : ∀ s ∈ m, s ∈ l) (i : Int) : Cov i l ↔ Cov i m :=
  ⟨fun ⟨s, hs, h⟩ => ⟨s, h1 s hs, h⟩, fun ⟨s, hs, h⟩ => ⟨s, h2 s hs, h⟩⟩
theorem withinB_self (M : List Sp) : withinB M M = true := by
  unfold withinB
  rw [List.all_eq_true]
  intro s hs
  unfold inB
  rw [List.any_eq_true]
  exact ⟨s, hs, by simp⟩
/-- Nothing but draws. -/
def Calm2 (w w' : World) : Prop := ∃ n, w' = w.drewN n
theorem Calm2.drewN {w w' : World} (h : Calm2 w w') (k : Nat) : Calm2 w (w'.drewN k) := by
  obtain ⟨n, rfl⟩ := h
  exact ⟨n + k, by simp [World.drewN, Nat.add_assoc]⟩
theorem Calm2.cell {w w' : World} (h : Calm2 w w') (a : Addr) : w'.cell? a = w.cell? a := by
  obtain ⟨n, rfl⟩ := h; rfl
theorem Calm2.below {B : Nat} {w w' : World} (h : Calm2 w w') : Below B w w' := by
  obtain ⟨n, rfl⟩ := h; exact below_drewN (Below.refl _ _) _
set_option maxHeartbeats 8000000 in
set_option maxRecDepth 100000 in
theorem spanOrder_walk (w : World) (va vb : Value) (ha : ArgS w va) (hb : ArgU w vb) :
    Calls Try.prog 7 #[va, vb] w fun e w' => e = .returned (.bool true) ∧ Below w.heap.size w w' := by
  obtain ⟨i0, hi, hz0, hz1, hz2⟩ := info_parts spInfo
  obtain ⟨l, ha⟩ := ha
  obtain ⟨xs, hb⟩ := hb
  obtain ⟨Aa, ca, rfl⟩ := ha.slice
  obtain ⟨Ab, cb, rfl⟩ := hb.slice
  by_cases hbig : l.length ≤ 40 ∧ xs.length ≤ 80
  · obtain ⟨i1, i2⟩ := hbig
    have j1 : ¬ (40 : Int) < (l.length : Int) := by omega
    have j2 : ¬ (80 : Int) < (xs.length : Int) := by omega
    have Ha := Lib.hid ha
    have Hb := Lib.hid hb
    clear ha hb
    go_enter Try.func7, Try.ntmps7
    go_wp2_with fail
    refine (merge_any w _ l Ha.out (by omega)).mono ?_
    rintro e w1 ⟨v1, M, rfl, own1, can1, cov1, b1⟩
    have hM : M.length ≤ 40 := by have := canon_len _ _ can1 cov1; omega
    have C1 := Lib.hid can1
    have V1 := Lib.hid cov1
    have RM1 : Hid (RdS w1 v1 M) := Lib.hid (RdS.of_own own1)
    have Ha1 : Hid (RdS w1 (.slice Aa l.length ca) l) := Lib.hid (Rd.below Ha.out b1)
    have Hb1 : Hid (RdU w1 (.slice Ab xs.length cb) xs) := Lib.hid ⟨Rd.below Hb.out.1 b1, Hb.out.2⟩
    have B1 := Lib.hid b1
    obtain ⟨A1, c1, rfl⟩ := RM1.out.slice
    clear own1 can1 cov1 b1 Ha Hb
    go_wp2_with fail
    go_loopw [6, 7] (fun t6 t7 wr => ∃ (k : Nat) (z : Int) (O : List Sp), k ≤ l.length ∧ t7 = .int .i64 z ∧ z + 1 = k ∧ O.length = l.length - k ∧ (∀ s ∈ O, s ∈ l) ∧ (∀ s ∈ l.drop k, s ∈ O) ∧ wr.ownsRow w1.heap.size 25 2 t6 O.length (spCells O) ∧ Below w1.heap.size w1 wr) (fun _ t _ => (intOf t + 1).toNat)
    case atStart => exact ⟨l.length, _, [], Nat.le_refl _, rfl, by omega, by simp, by simp, by simp, World.ownsRow_nil _ _ _ _, Below.refl _ _⟩
    case round =>
      obtain ⟨k, z, O, hk, rfl, hz, hol, hO1, hO2, hown, hbr⟩ := hrel
      have HZ := Lib.hid hz
      obtain ⟨A6, c6, rfl, _, _, _⟩ := own_form hown
      have hol2 : O.length ≤ l.length := by omega
      have HOL := Lib.hid hol
      clear hol
      have HO1 := Lib.hid hO1
      have HO2 := Lib.hid hO2
      clear hO1 hO2
      by_cases hk0 : 1 ≤ k
      · obtain ⟨b, off, cap, hv, _, _, hlt, hc⟩ := Ha1.out.form (by omega)
        injection hv with hA _ hcc
        subst hA; subst hcc
        obtain ⟨d0, d1⟩ := hc (k - 1) (by omega)
        have e0 := (hbr.cell (p := ⟨b, off + (k - 1) * 2, none⟩) hlt).trans d0
        have e1 := (hbr.cell (p := ⟨b, off + (k - 1) * 2 + 1, none⟩) hlt).trans d1
        clear hc d0 d1
        have hmem : l[k - 1] ∈ l := List.getElem_mem (by omega)
        have hdrop : l.drop (k - 1) = l[k - 1] :: l.drop k := by
          have := List.drop_eq_getElem_cons (l := l) (i := k - 1) (by omega)
          rwa [show k - 1 + 1 = k by omega] at this
        generalize l[k - 1] = s at *
        obtain ⟨s1, s2⟩ := s
        have Hmem := Lib.hid hmem
        have Hdrop := Lib.hid hdrop
        clear hmem hdrop
        have f1 : (0 : Int) ≤ z := by omega
        have f2 : z < (l.length : Int) := by omega
        have f3 : z.toNat = k - 1 := by omega
        have f4 : decide ((0 : Int) ≤ z) = true := decide_eq_true f1
        clear hz
        go_wp2_with (at_builtin; refine wpList_append_own _ rfl (.tmp 28) (.tmp 33) 22 rfl w1.heap.size 25 i0 _ 2 16 Try.underlying22 hi hz0 hz1 hz2 rfl (by decide) _ O.length (spCells O) rfl (hown.alloc _) ⟨wr.heap.size, 0, none⟩ 1 1 [_, _] rfl rfl (cells_new' wr _ (by simp) _ _) (spCells_one [(s1, s2)]) (by unfold maxLen; omega) (by omega) (by have := hbr.size; simp; omega) ?_; intro v1 w2 hown1 hg1 _; obtain ⟨g1, cp1, rfl, _, _⟩ := own_shape hown1 (by omega))
        go_roundw
        case rel =>
          have e : O.length + 1 = (O ++ [(s1, s2)]).length := by simp
          refine ⟨k - 1, z - 1, O ++ [(s1, s2)], by omega, by go_num, by have := HZ.out; omega, by simp; have := HOL.out; omega, ?_, ?_, by rw [← e, spCells_snoc]; exact hown1, (hbr.alloc hbr.size _).grown hg1 (by have := hbr.size; simp; omega) (fun b hb => (hown.lt b hb).1)⟩
          · intro s hs
            rcases List.mem_append.1 hs with hs | hs
            · exact HO1.out s hs
            · simp at hs; subst hs; exact Hmem.out
          · intro s hs
            rw [Hdrop.out] at hs
            rcases List.mem_cons.1 hs with rfl | hs
            · simp
            · exact List.mem_append_left _ (HO2.out s hs)
        case measure => simp [intOf]; omega
      · obtain rfl : k = 0 := by omega
        have hz0' : z < 0 := by omega
        have hz1' : decide ((0 : Int) ≤ z) = false := decide_eq_false (by omega)
        clear hz HZ
        have hO12 : Hid (∀ s ∈ l, s ∈ O) := Lib.hid (by simpa using HO2.out)
        have hOn : O.length = l.length := by simpa using HOL.out
        clear HO2 hk0 hk HOL hol2
        obtain ⟨wo, rfl⟩ : ∃ wo : World, wo = wr := ⟨_, rfl⟩
        have hOl : O.length ≤ 40 := by omega
        clear hOn
        go_wp2_with fail
        go_loopw [6, 8] (fun t6 t8 wr => ∃ (k : Nat) (P : List Sp), k ≤ xs.length ∧ t8 = .int .i64 k ∧ P.length ≤ 40 + k ∧ (∀ s ∈ P, s ∈ l) ∧ (∀ s ∈ l, s ∈ P) ∧ wr.ownsRow w1.heap.size 25 2 t6 P.length (spCells P) ∧ Below w1.heap.size w1 wr) (fun _ t _ => xs.length - (intOf t).toNat)
        case atStart => exact ⟨0, O, Nat.zero_le _, rfl, hOl, HO1.out, hO12.out, hown, hbr⟩
        case round =>
          clear hown hbr
          obtain ⟨k, P, hk, rfl, hpl, hP1, hP2, hown, hbr⟩ := hrel
          obtain ⟨A7, c7, rfl, _, _, _⟩ := own_form hown
          have HP1 := Lib.hid hP1
          have HP2 := Lib.hid hP2
          clear hP1 hP2
          by_cases hkx : k < xs.length ∧ 0 < l.length
          · obtain ⟨hkx, hl0⟩ := hkx
            obtain ⟨b', off', cap', hv, hlt', hc'⟩ := Hb1.out.form (by omega)
            injection hv with hA _ hcc
            subst hA; subst hcc
            have x0 := (hbr.cell (p := ⟨b', off' + k, none⟩) hlt').trans (hc' k hkx)
            have hx := Hb1.out.2 xs[k] (List.getElem_mem hkx)
            clear hc'
            generalize xs[k] = x at *
            obtain ⟨b, off, cap, hv, _, _, hlt, hc⟩ := Ha1.out.form (by omega)
            injection hv with hA _ hcc
            subst hA; subst hcc
            obtain ⟨p, hp⟩ : ∃ p : Nat, x % (l.length : Int) = (p : Int) := ⟨(x % (l.length : Int)).toNat, by have := Int.emod_nonneg x (b := (l.length : Int)) (by omega); omega⟩
            have hpl2 : p < l.length := by have := Int.emod_lt_of_pos x (b := (l.length : Int)) (by omega); omega
            obtain ⟨d0, d1⟩ := hc p hpl2
            have e0 := (hbr.cell (p := ⟨b, off + p * 2, none⟩) hlt).trans d0
            have e1 := (hbr.cell (p := ⟨b, off + p * 2 + 1, none⟩) hlt).trans d1
            clear hc d0 d1
            have hmem : l[p] ∈ l := List.getElem_mem hpl2
            generalize l[p] = s at *
            obtain ⟨s1, s2⟩ := s
            have Hmem := Lib.hid hmem
            clear hmem
            obtain ⟨hx0, hx1⟩ := hx
            have hp2 : x.tmod (l.length : Int) = (p : Int) := by rw [Int.tmod_eq_emod_of_nonneg hx0]; exact hp
            have g1 : decide (k < xs.length) = true := decide_eq_true hkx
            have g2 : (k : Int) < (xs.length : Int) := by omega
            have g3 : decide (0 < l.length) = true := decide_eq_true hl0
            have g4 : ((l.length : Int) == 0) = false := by simp only [beq_eq_false_iff_ne, ne_eq]; omega
            have g5 : (p : Int) < (l.length : Int) := by omega
            go_wp2_with (at_builtin; refine wpList_append_own _ rfl (.tmp 46) (.tmp 58) 22 rfl w1.heap.size 25 i0 _ 2 16 Try.underlying22 hi hz0 hz1 hz2 rfl (by decide) _ P.length (spCells P) rfl (hown.alloc _) ⟨wr.heap.size, 0, none⟩ 1 1 [_, _] rfl rfl (cells_new' wr _ (by simp) _ _) (spCells_one [(s1, s2)]) (by unfold maxLen; omega) (by omega) (by have := hbr.size; simp; omega) ?_; intro v1 w2 hown1 hg1 _; obtain ⟨g1, cp1, rfl, _, _⟩ := own_shape hown1 (by omega))
            go_roundw
            case rel =>
              have e : P.length + 1 = (P ++ [(s1, s2)]).length := by simp
              refine ⟨k + 1, P ++ [(s1, s2)], by omega, by go_num, by simp; omega, ?_, ?_, by rw [← e, spCells_snoc]; exact hown1, (hbr.alloc hbr.size _).grown hg1 (by have := hbr.size; simp; omega) (fun b hb => (hown.lt b hb).1)⟩
              · intro s hs
                rcases List.mem_append.1 hs with hs | hs
                · exact HP1.out s hs
                · simp at hs; subst hs; exact Hmem.out
              · exact fun s hs => List.mem_append_left _ (HP2.out s hs)
            case measure => simp [intOf]; omega
          · have hcase : (k < xs.length ∧ ¬ 0 < l.length) ∨ ¬ k < xs.length := by omega
            have HP : Hid (RdS wr (.slice A7 P.length c7) P) := Lib.hid (RdS.of_own hown)
            have HM : Hid (RdS wr (.slice A1 M.length c1) M) := Lib.hid (RdS.below RM1.out ⟨hbr.os, hbr.tape, hbr.output, hbr.size, hbr.block⟩)
            have HL : Hid (RdS wr (.slice Aa l.length ca) l) := Lib.hid (RdS.below Ha1.out ⟨hbr.os, hbr.tape, hbr.output, hbr.size, hbr.block⟩)
            have BB : Hid (Below w.heap.size w wr) := Lib.hid (B1.out.trans (hbr.mono B1.out.size))
            have hpl3 : P.length ≤ 1000 := by omega
            obtain ⟨w5, rfl⟩ : ∃ w5 : World, w5 = wr := ⟨_, rfl⟩
            clear hown hbr hkx hpl HO1 hO12 RM1 Ha1 Hb1
            have hloop : ∀ (i : Nat) (wi : World), Calm2 w5 wi → i < M.length → (∃ b off cap, Value.slice A1 M.length c1 = .slice (some ⟨b, off, none⟩) M.length cap ∧ ∃ m : Sp, wi.cell? ⟨b, off + i * 2, none⟩ = some (.int .i64 m.1) ∧ wi.cell? ⟨b, off + i * 2 + 1, none⟩ = some (.int .i64 m.2) ∧ m.1 < m.2 ∧ (0 < i → ∃ p : Sp, wi.cell? ⟨b, off + (i - 1) * 2 + 1, none⟩ = some (.int .i64 p.2) ∧ p.2 < m.1)) := by
              intro i wi hci him
              obtain ⟨b, off, cap, hv, _, _, hlt, hc⟩ := HM.out.form (by omega)
              refine ⟨b, off, cap, hv, M[i], (hci.cell _).trans (hc i him).1, (hci.cell _).trans (hc i him).2, C1.out.1 _ (List.getElem_mem him), fun hi0 => ⟨M[i - 1], (hci.cell _).trans (hc (i - 1) (by omega)).2, ?_⟩⟩
              exact List.pairwise_iff_getElem.1 C1.out.2 (i - 1) i (by omega) him (by omega)
            have HLP := Lib.hid hloop
            clear hloop
            rcases hcase with ⟨h1, h2⟩ | h1
            · have g1 : decide (k < xs.length) = true := decide_eq_true h1
              have g3 : decide (0 < l.length) = false := decide_eq_false h2
              go_wp2_with fail
              go_loopw [9] (fun t9 wr => ∃ i : Nat, i ≤ M.length ∧ t9 = .int .i64 i ∧ Calm2 w5 wr) (fun t _ => M.length - (intOf t).toNat)
              case atStart => exact ⟨0, Nat.zero_le _, rfl, 0, rfl⟩
              case round =>
                obtain ⟨i, him, rfl, hcalm⟩ := hrel
                by_cases hil : i < M.length
                · obtain ⟨b, off, cap, hv, ⟨m1, m2⟩, e0, e1, hm12, hprev⟩ := HLP.out i wr hcalm hil
                  injection hv with hA _ hcc
                  subst hA; subst hcc
                  have hm12 : m1 < m2 := hm12
                  have d1 : decide (m2 ≤ m1) = false := decide_eq_false (by omega)
                  have d2 : (i : Int) < (M.length : Int) := by omega
                  by_cases hi0 : 0 < i
                  · obtain ⟨⟨p1, p2⟩, f1, hlt⟩ := hprev hi0
                    have hlt : p2 < m1 := hlt
                    clear hprev
                    have d3 : decide (m1 ≤ p2) = false := decide_eq_false (by omega)
                    have d4 : decide (0 < i) = true := decide_eq_true hi0
                    have d5 : IntKind.i64.wrap ((i : Int) - 1) = (i : Int) - 1 := IntWalk.i64_in _ (by omega)
                    have d6 : (0 : Int) ≤ (i : Int) - 1 := by omega
                    have d7 : (1 : Int) ≤ (i : Int) := by omega
                    have d8 : (i : Int) - 1 < (M.length : Int) := by omega
                    have d9 : ((i : Int) - 1).toNat = i - 1 := by omega
                    go_wp2_with fail
                    go_quiet (fail)
                    go_wp2_with fail
                    go_roundw
                    case rel => exact ⟨i + 1, by omega, by go_num, hcalm.drewN _⟩
                    case measure => simp [intOf]; omega
                  · have d4 : decide (0 < i) = false := decide_eq_false hi0
                    clear hprev
                    go_wp2_with fail
                    go_quiet (fail)
                    go_wp2_with fail
                    go_roundw
                    case rel => exact ⟨i + 1, by omega, by go_num, hcalm.drewN _⟩
                    case measure => simp [intOf]; omega
                · have hp : Hid (RdS wr (.slice A7 P.length c7) P) := Lib.hid (RdS.below HP.out hcalm.below)
                  have hm : Hid (RdS wr (.slice A1 M.length c1) M) := Lib.hid (RdS.below HM.out hcalm.below)
                  have hl : Hid (RdS wr (.slice Aa l.length ca) l) := Lib.hid (RdS.below HL.out hcalm.below)
                  have bb : Hid (Below w.heap.size w wr) := Lib.hid (BB.out.trans hcalm.below)
                  clear hcalm
                  go_wp2_with fail
                  refine (merge_any wr _ P hp.out (by omega)).mono ?_
                  rintro e w6 ⟨v6, M6, rfl, own6, can6, cov6, b6⟩
                  obtain rfl : M6 = M := Canon.unique _ _ can6 C1.out fun i => (cov6 i).trans ((cov_same HP1.out HP2.out i).trans (V1.out i).symm)
                  have hr6 : Hid (RdS w6 v6 M6) := Lib.hid (RdS.of_own own6)
                  have hm6 : Hid (RdS w6 (.slice A1 M6.length c1) M6) := Lib.hid (RdS.below hm.out b6)
                  have hl6 : Hid (RdS w6 (.slice Aa l.length ca) l) := Lib.hid (RdS.below hl.out b6)
                  have bb6 : Hid (Below w.heap.size w w6) := Lib.hid (bb.out.trans (b6.mono bb.out.size))
                  clear own6 can6 cov6 b6 hp hm hl bb
                  go_wp2_with fail
                  refine (same1_yes w6 _ _ M6 hr6.out hm6.out (by omega)).mono ?_
                  rintro e w7 ⟨rfl, b7⟩
                  have hm7 : Hid (RdS w7 (.slice A1 M6.length c1) M6) := Lib.hid (RdS.below hm6.out b7)
                  have hl7 : Hid (RdS w7 (.slice Aa l.length ca) l) := Lib.hid (RdS.below hl6.out b7)
                  have bb7 : Hid (Below w.heap.size w w7) := Lib.hid (bb6.out.trans (b7.mono bb6.out.size))
                  clear b7 hr6 hm6 hl6 bb6
                  go_wp2_with fail
                  refine (merge_any w7 _ M6 hm7.out (by omega)).mono ?_
                  rintro e w8 ⟨v8, M8, rfl, own8, can8, cov8, b8⟩
                  obtain rfl : M8 = M6 := Canon.unique _ _ can8 C1.out fun i => (cov8 i)
                  have hr8 : Hid (RdS w8 v8 M8) := Lib.hid (RdS.of_own own8)
                  have hm8 : Hid (RdS w8 (.slice A1 M8.length c1) M8) := Lib.hid (RdS.below hm7.out b8)
                  have hl8 : Hid (RdS w8 (.slice Aa l.length ca) l) := Lib.hid (RdS.below hl7.out b8)
                  have bb8 : Hid (Below w.heap.size w w8) := Lib.hid (bb7.out.trans (b8.mono bb7.out.size))
                  clear own8 can8 cov8 b8 hm7 hl7 bb7
                  go_wp2_with fail
                  refine (same1_yes w8 _ _ M8 hr8.out hm8.out (by omega)).mono ?_
                  rintro e w9 ⟨rfl, b9⟩
                  have hm9 : Hid (RdS w9 (.slice A1 M8.length c1) M8) := Lib.hid (RdS.below hm8.out b9)
                  have hl9 : Hid (RdS w9 (.slice Aa l.length ca) l) := Lib.hid (RdS.below hl8.out b9)
                  have bb9 : Hid (Below w.heap.size w w9) := Lib.hid (bb8.out.trans (b9.mono bb8.out.size))
                  clear b9 hr8 hm8 hl8 bb8
                  go_wp2_with fail
                  refine (within_any w9 _ _ l M8 hl9.out hm9.out (by omega) (by omega)).mono ?_
                  rintro e wa ⟨A5, B5, q1, q2, q3, q4, rfl, ba⟩
                  have hA5 : A5 = M8 := Canon.unique _ _ q1 C1.out fun i => (q2 i).trans (V1.out i).symm
                  have hB5 : B5 = M8 := Canon.unique _ _ q3 C1.out fun i => (q4 i)
                  rw [hA5, hB5, withinB_self]
                  have hma : Hid (RdS wa (.slice A1 M8.length c1) M8) := Lib.hid (RdS.below hm9.out ba)
                  have hla : Hid (RdS wa (.slice Aa l.length ca) l) := Lib.hid (RdS.below hl9.out ba)
                  have bba : Hid (Below w.heap.size w wa) := Lib.hid (bb9.out.trans (ba.mono bb9.out.size))
                  clear hA5 hB5 q1 q2 q3 q4 ba hm9 hl9 bb9
                  go_wp2_with fail
                  refine (within_any wa _ _ M8 l hma.out hla.out (by omega) (by omega)).mono ?_
                  rintro e wb ⟨A5, B5, q1, q2, q3, q4, rfl, bb⟩
                  have hA5 : A5 = M8 := Canon.unique _ _ q1 C1.out fun i => (q2 i)
                  have hB5 : B5 = M8 := Canon.unique _ _ q3 C1.out fun i => (q4 i).trans (V1.out i).symm
                  rw [hA5, hB5, withinB_self]
                  have bbb : Hid (Below w.heap.size w wb) := Lib.hid (bba.out.trans (bb.mono bba.out.size))
                  clear hA5 hB5 q1 q2 q3 q4 bb hma hla bba
                  go_wp2_with (go_at_call 12; refine (awake1 _).mono ?_; rintro e wc ⟨rfl, bc⟩)
                  go_ret
                  exact ⟨rfl, bbb.out.trans (bc.mono bbb.out.size)⟩
            · have g1 : decide (k < xs.length) = false := decide_eq_false h1
              go_wp2_with fail
              go_loopw [9] (fun t9 wr => ∃ i : Nat, i ≤ M.length ∧ t9 = .int .i64 i ∧ Calm2 w5 wr) (fun t _ => M.length - (intOf t).toNat)
              case atStart => exact ⟨0, Nat.zero_le _, rfl, 0, rfl⟩
              case round =>
                obtain ⟨i, him, rfl, hcalm⟩ := hrel
                by_cases hil : i < M.length
                · obtain ⟨b, off, cap, hv, ⟨m1, m2⟩, e0, e1, hm12, hprev⟩ := HLP.out i wr hcalm hil
                  injection hv with hA _ hcc
                  subst hA; subst hcc
                  have hm12 : m1 < m2 := hm12
                  have d1 : decide (m2 ≤ m1) = false := decide_eq_false (by omega)
                  have d2 : (i : Int) < (M.length : Int) := by omega
                  by_cases hi0 : 0 < i
                  · obtain ⟨⟨p1, p2⟩, f1, hlt⟩ := hprev hi0
                    have hlt : p2 < m1 := hlt
                    clear hprev
                    have d3 : decide (m1 ≤ p2) = false := decide_eq_false (by omega)
                    have d4 : decide (0 < i) = true := decide_eq_true hi0
                    have d5 : IntKind.i64.wrap ((i : Int) - 1) = (i : Int) - 1 := IntWalk.i64_in _ (by omega)
                    have d6 : (0 : Int) ≤ (i : Int) - 1 := by omega
                    have d7 : (1 : Int) ≤ (i : Int) := by omega
                    have d8 : (i : Int) - 1 < (M.length : Int) := by omega
                    have d9 : ((i : Int) - 1).toNat = i - 1 := by omega
                    go_wp2_with fail
                    go_quiet (fail)
                    go_wp2_with fail
                    go_roundw
                    case rel => exact ⟨i + 1, by omega, by go_num, hcalm.drewN _⟩
                    case measure => simp [intOf]; omega
                  · have d4 : decide (0 < i) = false := decide_eq_false hi0
                    clear hprev
                    go_wp2_with fail
                    go_quiet (fail)
                    go_wp2_with fail
                    go_roundw
                    case rel => exact ⟨i + 1, by omega, by go_num, hcalm.drewN _⟩
                    case measure => simp [intOf]; omega
                · have hp : Hid (RdS wr (.slice A7 P.length c7) P) := Lib.hid (RdS.below HP.out hcalm.below)
                  have hm : Hid (RdS wr (.slice A1 M.length c1) M) := Lib.hid (RdS.below HM.out hcalm.below)
                  have hl : Hid (RdS wr (.slice Aa l.length ca) l) := Lib.hid (RdS.below HL.out hcalm.below)
                  have bb : Hid (Below w.heap.size w wr) := Lib.hid (BB.out.trans hcalm.below)
                  clear hcalm
                  go_wp2_with fail
                  refine (merge_any wr _ P hp.out (by omega)).mono ?_
                  rintro e w6 ⟨v6, M6, rfl, own6, can6, cov6, b6⟩
                  obtain rfl : M6 = M := Canon.unique _ _ can6 C1.out fun i => (cov6 i).trans ((cov_same HP1.out HP2.out i).trans (V1.out i).symm)
                  have hr6 : Hid (RdS w6 v6 M6) := Lib.hid (RdS.of_own own6)
                  have hm6 : Hid (RdS w6 (.slice A1 M6.length c1) M6) := Lib.hid (RdS.below hm.out b6)
                  have hl6 : Hid (RdS w6 (.slice Aa l.length ca) l) := Lib.hid (RdS.below hl.out b6)
                  have bb6 : Hid (Below w.heap.size w w6) := Lib.hid (bb.out.trans (b6.mono bb.out.size))
                  clear own6 can6 cov6 b6 hp hm hl bb
                  go_wp2_with fail
                  refine (same1_yes w6 _ _ M6 hr6.out hm6.out (by omega)).mono ?_
                  rintro e w7 ⟨rfl, b7⟩
                  have hm7 : Hid (RdS w7 (.slice A1 M6.length c1) M6) := Lib.hid (RdS.below hm6.out b7)
                  have hl7 : Hid (RdS w7 (.slice Aa l.length ca) l) := Lib.hid (RdS.below hl6.out b7)
                  have bb7 : Hid (Below w.heap.size w w7) := Lib.hid (bb6.out.trans (b7.mono bb6.out.size))
                  clear b7 hr6 hm6 hl6 bb6
                  go_wp2_with fail
                  refine (merge_any w7 _ M6 hm7.out (by omega)).mono ?_
                  rintro e w8 ⟨v8, M8, rfl, own8, can8, cov8, b8⟩
                  obtain rfl : M8 = M6 := Canon.unique _ _ can8 C1.out fun i => (cov8 i)
                  have hr8 : Hid (RdS w8 v8 M8) := Lib.hid (RdS.of_own own8)
                  have hm8 : Hid (RdS w8 (.slice A1 M8.length c1) M8) := Lib.hid (RdS.below hm7.out b8)
                  have hl8 : Hid (RdS w8 (.slice Aa l.length ca) l) := Lib.hid (RdS.below hl7.out b8)
                  have bb8 : Hid (Below w.heap.size w w8) := Lib.hid (bb7.out.trans (b8.mono bb7.out.size))
                  clear own8 can8 cov8 b8 hm7 hl7 bb7
                  go_wp2_with fail
                  refine (same1_yes w8 _ _ M8 hr8.out hm8.out (by omega)).mono ?_
                  rintro e w9 ⟨rfl, b9⟩
                  have hm9 : Hid (RdS w9 (.slice A1 M8.length c1) M8) := Lib.hid (RdS.below hm8.out b9)
                  have hl9 : Hid (RdS w9 (.slice Aa l.length ca) l) := Lib.hid (RdS.below hl8.out b9)
                  have bb9 : Hid (Below w.heap.size w w9) := Lib.hid (bb8.out.trans (b9.mono bb8.out.size))
                  clear b9 hr8 hm8 hl8 bb8
                  go_wp2_with fail
                  refine (within_any w9 _ _ l M8 hl9.out hm9.out (by omega) (by omega)).mono ?_
                  rintro e wa ⟨A5, B5, q1, q2, q3, q4, rfl, ba⟩
                  have hA5 : A5 = M8 := Canon.unique _ _ q1 C1.out fun i => (q2 i).trans (V1.out i).symm
                  have hB5 : B5 = M8 := Canon.unique _ _ q3 C1.out fun i => (q4 i)
                  rw [hA5, hB5, withinB_self]
                  have hma : Hid (RdS wa (.slice A1 M8.length c1) M8) := Lib.hid (RdS.below hm9.out ba)
                  have hla : Hid (RdS wa (.slice Aa l.length ca) l) := Lib.hid (RdS.below hl9.out ba)
                  have bba : Hid (Below w.heap.size w wa) := Lib.hid (bb9.out.trans (ba.mono bb9.out.size))
                  clear hA5 hB5 q1 q2 q3 q4 ba hm9 hl9 bb9
                  go_wp2_with fail
                  refine (within_any wa _ _ M8 l hma.out hla.out (by omega) (by omega)).mono ?_
                  rintro e wb ⟨A5, B5, q1, q2, q3, q4, rfl, bb⟩
                  have hA5 : A5 = M8 := Canon.unique _ _ q1 C1.out fun i => (q2 i)
                  have hB5 : B5 = M8 := Canon.unique _ _ q3 C1.out fun i => (q4 i).trans (V1.out i).symm
                  rw [hA5, hB5, withinB_self]
                  have bbb : Hid (Below w.heap.size w wb) := Lib.hid (bba.out.trans (bb.mono bba.out.size))
                  clear hA5 hB5 q1 q2 q3 q4 bb hma hla bba
                  go_wp2_with (go_at_call 12; refine (awake1 _).mono ?_; rintro e wc ⟨rfl, bc⟩)
                  go_ret
                  exact ⟨rfl, bbb.out.trans (bc.mono bbb.out.size)⟩
  · have hor : (40 : Int) < (l.length : Int) ∨ (¬ (40 : Int) < (l.length : Int) ∧ (80 : Int) < (xs.length : Int)) := by omega
    clear hbig ha hb
    rcases hor with h | ⟨h, h'⟩
    all_goals
      go_enter Try.func7, Try.ntmps7
      go_wp2_with (go_at_call 12; refine (awake1 _).mono ?_; rintro e w' ⟨rfl, hb⟩)
      go_ret
      exact ⟨rfl, hb⟩
end Go.Proofs.Ytlifkfihpmkffaa
