/- The contract of span.Cut. -/
import Derived.Test.YtlifkfihpmkffaaSpI1
import Derived.Deep.AppendLies
import Derived.Deep.RegionLaw
import Derived.Outline
namespace Go.Proofs.Ytlifkfihpmkffaa
open Go.RowKit

theorem strInfo : (Try.prog.info? 9).map (fun i => (i.zero, i.size, i.bytes)) = some (some (.string ⟨#[]⟩), 1, 16) := by kernel_rfl
/-- What spans have of a text, as cells. -/
def cutCells (text : ByteArray) (l : List Sp) : List Value := l.map fun s => .string (text.extract s.1.toNat s.2.toNat)
theorem cutCells_one (text : ByteArray) (l : List Sp) : ∀ u ∈ cutCells text l, u.oneCell' = true := by
  intro u hu
  obtain ⟨s, _, rfl⟩ := List.mem_map.1 hu
  rfl
def CutInv (text : ByteArray) (bv tb : Nat) (W0 : World) (done : List Sp) (W : World) : Prop :=
  ∃ vp, W.cell? ⟨bv, 0, none⟩ = some vp ∧ W.frozen? ⟨bv, 0, none⟩ = false ∧ W.ownsRow W0.heap.size 9 1 vp done.length (cutCells text done) ∧ Mid bv W0.heap.size W0 W ∧ W.cell? ⟨tb, 0, none⟩ = some (.string text)
theorem CutInv.keep {text : ByteArray} {bv tb : Nat} {W0 : World} {done : List Sp} {W W' : World} (h : CutInv text bv tb W0 done W) (hb : Below W.heap.size W W') (hlt : bv < W0.heap.size) (htb : tb < W0.heap.size) : CutInv text bv tb W0 done W' := by
  obtain ⟨vp, h1, h2, h3, h4, h5⟩ := h
  have hs := h4.size
  exact ⟨vp, (hb.cell (p := ⟨bv, 0, none⟩) (by show bv < _; omega)).trans h1, (hb.frozen (p := ⟨bv, 0, none⟩) (by show bv < _; omega)).trans h2, own_below h3 hb (Nat.le_refl _), h4.trans (Mid.of_below (hb.mono hs)), (hb.cell (p := ⟨tb, 0, none⟩) (by show tb < _; omega)).trans h5⟩
theorem CutInv.mid {text : ByteArray} {bv tb : Nat} {W0 : World} {done : List Sp} {W : World} (h : CutInv text bv tb W0 done W) : Mid bv W0.heap.size W0 W := by
  obtain ⟨_, _, _, _, h, _⟩ := h; exact h
set_option maxHeartbeats 2000000 in
set_option maxRecDepth 100000 in
theorem cut_step (text : ByteArray) (bv tb : Nat) (W0 W : World) (done : List Sp) (a b : Int) (hlt : bv < W0.heap.size) (htb : tb < W0.heap.size) (hne : bv ≠ tb) (hn : text.size ≤ 1000) (hd : done.length ≤ 1000000) (h0 : 0 ≤ a) (hab : a < b) (hbn : b ≤ text.size) (h : CutInv text bv tb W0 done W) :
    Calls Try.prog 45 #[.agg #[.int .i64 a, .int .i64 b], .pointer (some ⟨bv, 0, none⟩), .pointer (some ⟨tb, 0, none⟩)] W fun e w' => e = .returned (.tuple #[]) ∧ CutInv text bv tb W0 (done ++ [(a, b)]) w' := by
  obtain ⟨i0, hi, hz0, hz1, hz2⟩ := info_parts strInfo
  obtain ⟨vp, h1, h2, h3, h4, h5⟩ := h
  have hbv : bv < W.heap.size := by have := h4.size; omega
  have htv : tb < W.heap.size := by have := h4.size; omega
  obtain ⟨A, c, rfl, _, _, _⟩ := own_form h3
  have H3 := Lib.hid h3
  have H4 := Lib.hid h4
  clear h3 h4
  obtain ⟨W1, hW1⟩ : ∃ W1, W1 = W.alloc (.cells #[.int .i64 a, .int .i64 b] 25) := ⟨_, rfl⟩
  have k0 : W1.cell? ⟨W.heap.size, 0, none⟩ = some (.int .i64 a) := by rw [hW1]; go_simp
  have k1 : W1.cell? ⟨W.heap.size, 1, none⟩ = some (.int .i64 b) := by rw [hW1]; go_simp
  have k2 : W1.cell? ⟨bv, 0, none⟩ = some (.slice A done.length c) := by rw [hW1, World.cell?_alloc_lt _ _ _ (by show bv < _; omega)]; exact h1
  have k3 : W1.cell? ⟨tb, 0, none⟩ = some (.string text) := by rw [hW1, World.cell?_alloc_lt _ _ _ (by show tb < _; omega)]; exact h5
  have k4 : W1.frozen? ⟨bv, 0, none⟩ = false := by rw [hW1, World.frozen?_alloc_old _ _ _ (by simp; omega)]; exact h2
  have g1 : 0 ≤ b := by omega
  have g2 : a ≤ b := by omega
  have HW := Lib.hid hW1
  go_enter Try.func45, Try.ntmps45
  go_wp2_with fail
  rw [← hW1]
  clear hW1 h1 h2 h5
  have hz : W.heap.size < W1.heap.size := by rw [HW.out]; simp
  have hb1 : bv < W1.heap.size := by omega
  have own1 : W1.ownsRow W0.heap.size 9 1 (.slice A done.length c) done.length (cutCells text done) := by rw [HW.out]; exact H3.out.alloc _
  have mid1 : Mid bv W0.heap.size W0 W1 := by rw [HW.out]; exact H4.out.trans (Mid.of_below ((Below.refl _ _).alloc H4.out.size _))
  have OWN := Lib.hid own1
  have MID := Lib.hid mid1
  have hs0 := mid1.size
  have SZ : Hid (W0.heap.size ≤ W1.heap.size) := Lib.hid hs0
  clear own1 mid1 hs0 H3 H4
  have SZ2 : Hid (W0.heap.size ≤ (((W1.alloc (.cells #[.string (text.extract a.toNat b.toNat)] 9)).drew).heap.size)) := Lib.hid (by have := SZ.out; simp <;> omega)
  have HG : Hid (∀ w1, (((W1.alloc (.cells #[.string (text.extract a.toNat b.toNat)] 9)).drew)).grownBy w1 (Value.ownBlock (.slice A done.length c)) → w1.cell? ⟨bv, 0, none⟩ = some (.slice A done.length c) ∧ w1.frozen? ⟨bv, 0, none⟩ = false ∧ Mid bv W0.heap.size W0 w1 ∧ w1.cell? ⟨tb, 0, none⟩ = some (.string text)) := Lib.hid (by
    intro w1 hg
    have hB : Below W0.heap.size W1 w1 := (((Below.refl _ _).alloc SZ.out _).drew).grown hg SZ2.out (fun b hb => (OWN.out.lt b hb).1)
    exact ⟨(hB.cell (p := ⟨bv, 0, none⟩) hlt).trans k2, (hB.frozen (p := ⟨bv, 0, none⟩) hlt).trans k4, MID.out.trans (Mid.of_below hB), (hB.cell (p := ⟨tb, 0, none⟩) htb).trans k3⟩)
  go_region_law (refine step_append_lies _ (by rfl) (.tmp 4) (.tmp 11) 34 (by rfl) W0.heap.size 9 i0 _ 1 16 Try.underlying34 hi hz0 hz1 hz2 rfl (by omega) (.slice A done.length c) done.length (cutCells text done) (by rfl) ((OWN.out.alloc _).drew) ⟨W1.heap.size, 0, none⟩ 1 1 [.string (text.extract a.toNat b.toNat)] (by rfl) (by rfl) (World.news_of_block (cs := #[.string (text.extract a.toNat b.toNat)]) (t := 9) (fr := (0, 0)) (heap_alloc_new W1 _)) (by simp [Value.oneCell']) (by omega) (by unfold maxLen; omega) (by omega) SZ2.out (W1.heap.size + 1) (by simp) ?_; intro gg cap w1 hown1 hgrow hat hlt2; obtain ⟨z0, z1, mid2, z2⟩ := HG.out w1 hgrow)
  all_goals
    go_end0
    refine ⟨rfl, .slice (some ⟨gg, 0, none⟩) (done.length + 1) cap, by go_simp, by go_simp, ?_, mid2.set_ _, ?_⟩
    · have e : done.length + 1 = (done ++ [(a, b)]).length := by simp
      have e2 : cutCells text done ++ [.string (text.extract a.toNat b.toNat)] = cutCells text (done ++ [(a, b)]) := by simp [cutCells]
      rw [e2, e] at hown1
      rw [e]
      exact ownsRow_setCell_below hown1 (by show bv < _; exact hlt) _
    · rw [World.cell?_setCell_other _ _ _ _ (by intro h; injection h with h; exact hne h)]
      exact z2
set_option maxHeartbeats 2000000 in
set_option maxRecDepth 100000 in
theorem inside_cut (n : Int) (w : World) (v : Value) (l : List Sp) (text : ByteArray) (bv tb : Nat) (h : RdS w v l) (hl : l.length ≤ 1000000) (hnt : n ≤ text.size) (hn : text.size ≤ 1000) (hlt : bv < w.heap.size) (htb : tb < w.heap.size) (hne : bv ≠ tb)
    (hstart : ∀ W0, Below w.heap.size w W0 → CutInv text bv tb W0 [] W0) :
    Calls Try.prog 43 #[.int .i64 n, v, .func (.func 45) #[] #[.pointer (some ⟨bv, 0, none⟩), .pointer (some ⟨tb, 0, none⟩)]] w fun e w' => e = .returned (.tuple #[]) ∧ ∃ M W0, Canon M ∧ (∀ i, Cov i M ↔ Cov i l) ∧ M.length ≤ 1000000 ∧ Below w.heap.size w W0 ∧ CutInv text bv tb W0 (insideL n M) w' := by
  have HST := Lib.hid hstart
  clear hstart
  go_enter Try.func43, Try.ntmps43
  go_wp2_with fail
  refine (merge_any w v l h hl).mono ?_
  rintro e w1 ⟨v1, M, rfl, own1, can1, cov1, b1⟩
  have hM : M.length ≤ 1000000 := by have := canon_len _ _ can1 cov1; omega
  have C1 := Lib.hid can1
  have V1 := Lib.hid cov1
  have RM : Hid (RdS w1 v1 M) := Lib.hid (RdS.of_own own1)
  have hst := HST.out w1 b1
  have hlt1 : bv < w1.heap.size := by have := b1.size; omega
  have htb1 : tb < w1.heap.size := by have := b1.size; omega
  obtain ⟨A1, c1, rfl⟩ := RM.out.slice
  have hgM : Hid (0 < M.length → ∃ g, A1 = some ⟨g, 0, none⟩ ∧ w.heap.size ≤ g) := Lib.hid (fun h0 => by
    obtain ⟨g, c, hv, hg, _⟩ := own_shape own1 h0
    injection hv with hv1
    exact ⟨g, hv1, hg⟩)
  have B1 := Lib.hid b1
  clear own1 can1 cov1 b1 h HST
  go_wp2_with fail
  go_loopw [12] (fun t wr => ∃ k : Nat, k ≤ M.length ∧ t = .int .i64 k ∧ CutInv text bv tb w1 (insideL n (M.take k)) wr) (fun t _ => M.length - (intOf t).toNat)
  case atStart => exact ⟨0, Nat.zero_le _, rfl, hst⟩
  case round =>
    clear hst
    obtain ⟨k, hk, rfl, hinv⟩ := hrel
    have hmid := hinv.mid
    have hsz := hmid.size
    have HINV := Lib.hid hinv
    clear hinv
    by_cases hkl : k < M.length
    · obtain ⟨b, off, cap, hv, _, _, hbl, hc⟩ := RM.out.form (by omega)
      obtain ⟨g, hg1, hg2⟩ := hgM.out (by omega)
      injection hv with hA _ hcc
      subst hA; subst hcc
      injection hg1 with hg1
      injection hg1 with hg1 hg3
      obtain ⟨d0, d1⟩ := hc k hkl
      clear hc
      have hblk := hmid.block b hbl (by omega)
      rw [← World.cell?_of_block (a := ⟨b, off + k * 2, none⟩) hblk] at d0
      rw [← World.cell?_of_block (a := ⟨b, off + k * 2 + 1, none⟩) hblk] at d1
      have htk := insideL_take n M k hkl
      have hil : (insideL n (M.take k)).length ≤ 1000000 := by have := insideL_length n (M.take k); simp at this; omega
      generalize M[k] = s at *
      obtain ⟨s1, s2⟩ := s
      obtain ⟨a, ha⟩ : ∃ a, max s1 0 = a := ⟨_, rfl⟩
      obtain ⟨b', hb'⟩ : ∃ b', min s2 n = b' := ⟨_, rfl⟩
      have hcl : clip n (s1, s2) = (a, b') := by simp only [clip, ha, hb']
      rw [hcl] at htk
      have ha0 : 0 ≤ a := by omega
      have hbn : b' ≤ n := by omega
      have Htk := Lib.hid htk
      clear htk hcl hblk hg1 hg3 hg2
      have hbw : b < wr.heap.size := by omega
      go_wp2_with fail
      clear ha hb'
      have hI2 : ∀ w3, Below wr.heap.size wr w3 → CutInv text bv tb w1 (insideL n (M.take k)) w3 := fun w3 h => HINV.out.keep h hlt1 htb1
      have HI2 := Lib.hid hI2
      clear hI2
      by_cases hab : a < b'
      · have hd : decide (a < b') = true := decide_eq_true hab
        refine (hasBytes_any _ _ _).mono ?_
        rintro e w3 ⟨rfl, hb3⟩
        have hb3' : Below wr.heap.size wr w3 := (((Below.refl _ _).alloc (Nat.le_refl _) _).alloc (by simp) _).trans (hb3.mono (by simp <;> omega))
        have j0 : w3.cell? ⟨wr.heap.size + 1, 0, none⟩ = some (.int .i64 a) := (hb3.cell (p := ⟨wr.heap.size + 1, 0, none⟩) (by simp)).trans (by go_simp)
        have j1 : w3.cell? ⟨wr.heap.size + 1, 1, none⟩ = some (.int .i64 b') := (hb3.cell (p := ⟨wr.heap.size + 1, 1, none⟩) (by simp)).trans (by go_simp)
        clear hb3
        go_wp2_with fail
        refine (cut_step text bv tb w1 w3 _ a b' hlt1 htb1 hne (by omega) hil ha0 hab (by omega) (HI2.out w3 hb3')).mono ?_
        rintro e w4 ⟨rfl, hinv4⟩
        have HI4 := Lib.hid hinv4
        clear hinv4
        go_wp2_with fail
        go_roundw
        case rel => exact ⟨k + 1, by omega, by go_num, by rw [Htk.out, if_pos hab]; exact HI4.out⟩
        case measure => simp [intOf]; omega
      · have hd : decide (a < b') = false := decide_eq_false hab
        refine (hasBytes_any _ _ _).mono ?_
        rintro e w3 ⟨rfl, hb3⟩
        have hb3' : Below wr.heap.size wr w3 := (((Below.refl _ _).alloc (Nat.le_refl _) _).alloc (by simp) _).trans (hb3.mono (by simp <;> omega))
        clear hb3
        go_wp2_with fail
        go_roundw
        case rel => exact ⟨k + 1, by omega, by go_num, by rw [Htk.out, if_neg (by omega)]; exact HI2.out w3 hb3'⟩
        case measure => simp [intOf]; omega
    · have hke : k = M.length := by omega
      subst hke
      have hi := HINV.out
      rw [List.take_length] at hi
      have HI := Lib.hid hi
      clear hi HINV
      go_wp2_with fail
      go_end0
      exact ⟨rfl, M, w1, C1.out, V1.out, hM, B1.out, HI.out⟩
set_option maxHeartbeats 1000000 in
set_option maxRecDepth 100000 in
theorem cut_any (text : ByteArray) (w : World) (v : Value) (l : List Sp) (h : RdS w v l) (hl : l.length ≤ 1000000) (hn : text.size ≤ 1000) :
    Calls Try.prog 21 #[.string text, v] w fun e w' => ∃ vp M, e = .returned vp ∧ Canon M ∧ (∀ i, Cov i M ↔ Cov i l) ∧ w'.ownsRow w.heap.size 9 1 vp (insideL text.size M).length (cutCells text (insideL text.size M)) ∧ Below w.heap.size w w' := by
  obtain ⟨w0, hw0⟩ : ∃ w0, w0 = (w.alloc (.cells #[.string text] 9)).alloc (.cells #[.slice none 0 0] 34) := ⟨_, rfl⟩
  have hz : w0.heap.size = w.heap.size + 2 := by rw [hw0]; simp
  have hb0 : Below w.heap.size w w0 := by rw [hw0]; exact ((Below.refl _ _).alloc (Nat.le_refl _) _).alloc (by simp) _
  have h1 : RdS w0 v l := by rw [hw0]; exact Rd.alloc (Rd.alloc h _) _
  have x0 : w0.cell? ⟨w.heap.size + 1, 0, none⟩ = some (.slice none 0 0) := by rw [hw0]; go_simp
  have x1 : w0.frozen? ⟨w.heap.size + 1, 0, none⟩ = false := by rw [hw0]; go_simp
  have x2 : w0.cell? ⟨w.heap.size, 0, none⟩ = some (.string text) := by rw [hw0]; go_simp
  have hcon := inside_cut text.size w0 v l text (w.heap.size + 1) w.heap.size h1 hl (Int.le_refl _) (by omega) (by omega) (by omega) (by omega) (fun W0 hb => by
    have hz2 := hb.size
    exact ⟨.slice none 0 0, (hb.cell (p := ⟨w.heap.size + 1, 0, none⟩) (by show w.heap.size + 1 < _; omega)).trans x0, (hb.frozen (p := ⟨w.heap.size + 1, 0, none⟩) (by show w.heap.size + 1 < _; omega)).trans x1, World.ownsRow_nil _ _ _ _, Mid.refl _ _ _, (hb.cell (p := ⟨w.heap.size, 0, none⟩) (by show w.heap.size < _; omega)).trans x2⟩)
  have HC := Lib.hid hcon
  have Hz := Lib.hid hz
  have hzl : w.heap.size + 2 ≤ w0.heap.size := by omega
  have Hw := Lib.hid hw0
  clear hcon h h1 hz
  go_enter Try.func21, Try.ntmps21
  go_wp2_with fail
  rw [← hw0]
  clear hw0
  go_wp2_with fail
  refine HC.out.mono ?_
  rintro e w1 ⟨rfl, M, W0, hc, hcov, _, hb, vp, h1, h2, h3, h4, h5⟩
  have hb2 : Below w.heap.size w w1 := hb0.trans ((hb.mono (by omega)).trans ((h4.below (by have := hb.size; omega)).mono (by omega)))
  have H1 := Lib.hid hc
  have H2 := Lib.hid hcov
  have H3 : Hid (w1.ownsRow w.heap.size 9 1 vp (insideL text.size M).length (cutCells text (insideL text.size M))) := Lib.hid (own_mono h3 (by have := hb.size; omega))
  clear hc hcov hb h3 h4 h5 HC
  go_wp2_with fail
  go_ret
  exact ⟨vp, M, rfl, H1.out, H2.out, H3.out, hb2⟩
end Go.Proofs.Ytlifkfihpmkffaa
