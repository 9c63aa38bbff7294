/- types.Depth. -/
import Derived.Test.YtagdpohgicihnaaDoorTyR
import Derived.Test.YtagdpohgicihnaaDoorTyF
namespace Go.Proofs.YtagdpohgicihnaaDoor
open Go.RowKit
attribute [local go_sem ↓] builtin_app
theorem trC_one (L : List Tr) : ∀ u ∈ L.flatMap trC, u.oneCell' = true := by
  intro u hu
  obtain ⟨x, _, hx⟩ := List.mem_flatMap.1 hu
  simp only [trC, List.mem_cons, List.not_mem_nil, or_false] at hx
  rcases hx with rfl | rfl | rfl <;> rfl
theorem top_at (F : Fo) (j : Nat) (hj : j < F.len) : (F.top.flatMap trC)[j * 3]? = some (.int .i64 (F.at_ j).1) ∧ (F.top.flatMap trC)[j * 3 + 1]? = some (.int .i64 (F.at_ j).2.1) ∧ (F.top.flatMap trC)[j * 3 + 2]? = some (slv (F.at_ j).2.2.1) := by
  induction F generalizing j with
  | nil => simp [Fo.len] at hj
  | cons k n u ps r _ ih =>
    cases j with
    | zero => simp [Fo.top, trC, Fo.at_]
    | succ j =>
      have := ih j (by simp [Fo.len] at hj; omega)
      simp only [Fo.top, List.flatMap_cons, trC, Fo.at_, List.cons_append, List.nil_append]
      rw [show (j + 1) * 3 = j * 3 + 1 + 1 + 1 by omega]
      simp only [List.getElem?_cons_succ]
      exact this
theorem TyL.at {B : Nat} {w : World} {F : Fo} (h : TyL B w F) (j : Nat) (hj : j < F.len) : TyV B w (F.at_ j).2.2.2 (slv (F.at_ j).2.2.1) := by
  induction F generalizing j with
  | nil => simp [Fo.len] at hj
  | cons k n u ps r _ ih =>
    cases j with
    | zero => exact h.1
    | succ j => exact ih h.2 j (by simp [Fo.len] at hj; omega)
/-- Between two levels. -/
def DInv (w : World) (D N : Nat) (t3 t4 : Value) (wr : World) (s : Nat) : Prop :=
  ∃ (F : Fo) (d : Nat), F.size = s ∧ t3 = .int .i64 d ∧ d + F.depth = D ∧ F.size ≤ N ∧ Rd wr 3 t4 F.len (F.top.flatMap trC) ∧ TyL w.heap.size wr F ∧ Below w.heap.size w wr
set_option maxHeartbeats 1000000 in
set_option maxRecDepth 100000 in
theorem depth_any (w : World) (k n : Int) (u : Sl) (ps : Fo) (hps : TyV w.heap.size w ps (slv u)) (hs : ps.size < 1000000) :
    Calls Tryd.prog 17 #[tyVal k n (slv u)] w fun e w' => e = .returned (.int .i64 (1 + ps.depth)) ∧ Below w.heap.size w w' := by
  have hds := ps.depth_le_size
  obtain ⟨u1, u2, u3⟩ := u
  dsimp only [tyVal, slv] at hps ⊢
  have hinv : DInv w (1 + ps.depth) 1000000 (.int .i64 0) (.slice (some ⟨w.heap.size + 1, 0, none⟩) 1 1) ((w.alloc (.cells #[.int .i64 k, .int .i64 n, .slice u1 u2 u3] 24)).alloc (.cells #[.int .i64 k, .int .i64 n, .slice u1 u2 u3] 24)) (1 + ps.size) := by
    have hb : Below w.heap.size w ((w.alloc (.cells #[.int .i64 k, .int .i64 n, .slice u1 u2 u3] 24)).alloc (.cells #[.int .i64 k, .int .i64 n, .slice u1 u2 u3] 24)) := ((Below.refl _ w).alloc (Nat.le_refl _) _).alloc (by simp) _
    refine ⟨.cons k n (u1, u2, u3) ps .nil, 0, by simp [Fo.size], rfl, by simp [Fo.depth], by simp only [Fo.size]; omega, ?_, ⟨hps.below hb, trivial⟩, hb⟩
    have := rd_new (w.alloc (.cells #[.int .i64 k, .int .i64 n, .slice u1 u2 u3] 24)) [.int .i64 k, .int .i64 n, .slice u1 u2 u3] 24 3 1 rfl (by unfold maxLen; omega)
    rw [World.size_alloc] at this
    simpa [Fo.len, Fo.top, trC, slv] using this
  obtain ⟨D, hD⟩ : ∃ D, 1 + ps.depth = D := ⟨_, rfl⟩
  have hDm : D ≤ 1000000 := by omega
  rw [hD] at hinv
  rw [show (1 : Int) + ps.depth = (D : Int) by omega]
  have HI := Lib.hid hinv
  clear hps hinv hD hds hs
  go_enter Tryd.func17, Tryd.ntmps17
  go_wp2_with fail
  go_loopw [3, 4] (fun t3 t4 wr => ∃ s, DInv w D 1000000 t3 t4 wr s) (fun t3 t4 wr => least (DInv w D 1000000 t3 t4 wr))
  case atStart => exact ⟨_, HI.out⟩
  case round =>
    obtain ⟨s, hs⟩ := hrel
    obtain ⟨⟨F, d, hFs, rfl, hdD, hFN, hRd, hTL, hb⟩, _⟩ := least_of hs
    have HM := Lib.hid hFs
    clear hFs hs
    rcases Nat.eq_zero_or_pos F.len with h0 | h0
    · obtain ⟨A, c, rfl⟩ : ∃ A c, u4 = .slice A 0 c := by
        rcases hRd.2 with ⟨_, A, c, h⟩ | ⟨b, off, cap, h, _⟩
        · exact ⟨A, c, h⟩
        · exact ⟨_, cap, by rw [h, h0]⟩
      have hz := F.depth_kids.1 h0
      obtain rfl : d = D := by omega
      have HB := Lib.hid hb
      clear hRd h0 hb
      go_wp2_with fail
      go_ret
      exact ⟨rfl, HB.out⟩
    · have hk := F.depth_kids.2 h0
      have hsk := F.size_kids
      obtain ⟨b, off, cap, rfl, hc1, hc2, hlt, hC⟩ := hRd.2.resolve_left (by rintro ⟨h, _⟩; omega)
      obtain ⟨q, hq⟩ : ∃ q, F.len = q := ⟨_, rfl⟩
      rw [hq] at h0 HM ⊢
      have HQ := Lib.hid hq
      have HC := Lib.hid hC
      have HTL := Lib.hid hTL
      have HB := Lib.hid hb
      have HK := Lib.hid hk
      have hqm : q ≤ 1000000 := by have := F.len_le_size; omega
      clear hq hC hTL hb hRd
      generalize wr = wo at *
      go_wp2_with fail
      go_loopw [5, 17] (fun t5 t17 wr => ∃ j : Nat, j ≤ q ∧ t17 = .int .i64 j ∧ wr.ownsRow wo.heap.size 24 3 t5 (F.take j).kids.len ((F.take j).kids.top.flatMap trC) ∧ Below wo.heap.size wo wr) (fun _ t _ => q - (intOf t).toNat)
      case atStart => exact ⟨0, Nat.zero_le _, rfl, by rw [Fo.take_zero]; exact ⟨rfl, .inl ⟨rfl, rfl⟩⟩, Below.refl _ _⟩
      case round =>
        obtain ⟨j, hj, rfl, hown, hbw⟩ := hrel
        by_cases hjl : j < q
        · have hjF : j < F.len := by rw [HQ.out]; exact hjl
          obtain ⟨x0, x1, x2⟩ := top_at F j hjF
          have c0 := (hbw.cell (p := ⟨b, off + j * 3, none⟩) hlt).trans (HC.out _ _ x0)
          have c1 := (hbw.cell (p := ⟨b, off + j * 3 + 1, none⟩) hlt).trans (HC.out (j * 3 + 1) _ x1)
          have c2 := (hbw.cell (p := ⟨b, off + j * 3 + 2, none⟩) hlt).trans (HC.out (j * 3 + 2) _ x2)
          have hch := HTL.out.at j hjF
          have hkt := F.kids_take j hjF
          have hm1 : (F.take (j + 1)).kids.len ≤ 1000000 := by
            have h1 := (F.take (j + 1)).size_kids
            have h2 := (F.take (j + 1)).kids.len_le_size
            have h3 := F.size_take_le (j + 1)
            omega
          have hla : (F.take (j + 1)).kids.len = (F.take j).kids.len + (F.at_ j).2.2.2.len := by rw [hkt, Fo.len_app]
          have hta : (F.take (j + 1)).kids.top.flatMap trC = (F.take j).kids.top.flatMap trC ++ (F.at_ j).2.2.2.top.flatMap trC := by rw [hkt, Fo.top_app, List.flatMap_append]
          generalize F.at_ j = p at *
          obtain ⟨pk, pn, ⟨p1, p2, p3⟩, pf⟩ := p
          dsimp only [slv] at c0 c1 c2 hch hla hta
          obtain ⟨W1, hW1⟩ : ∃ W1, W1 = wr.alloc (.cells #[.int .i64 pk, .int .i64 pn, .slice p1 p2 p3] 24) := ⟨_, rfl⟩
          have hbW : Below wo.heap.size wo W1 := by rw [hW1]; exact hbw.alloc hbw.size _
          have hsW := hbW.size
          have rd1 : Rd W1 3 (.slice p1 p2 p3) pf.len (pf.top.flatMap trC) := TyV.rd3 (Nat.le_trans HB.out.size hsW) (hch.below (hbW.mono HB.out.size))
          have own1 := hown.alloc (.cells #[.int .i64 pk, .int .i64 pn, .slice p1 p2 p3] 24)
          rw [← hW1] at own1
          obtain ⟨i0, hi0, hz0, hz1, hz2⟩ := info_parts tyInfo
          obtain ⟨v1, w1, hrun, hown1, hg1, _⟩ := run_append_rd (P := Tryd.prog) W1 wo.heap.size 22 22 24 i0 _ 3 40 Tryd.underlying22 hi0 hz0 hz1 hz2 rfl (by omega) u5 _ _ own1 _ pf.len _ rd1 (trC_one _) (by unfold maxLen; omega) (by omega) hsW
          have hrun2 : (app_ #[22, 22] 22 #[u5, .slice p1 p2 p3]).run Tryd.prog W1 = .ok v1 w1 := hrun
          have hb1 : Below wo.heap.size wo w1 := hbW.trans ((Below.refl _ _).grown hg1 hsW (fun k e => (own1.lt k e).1))
          rw [← hla, ← hta] at hown1
          have HO1 := Lib.hid hown1
          have HB1 := Lib.hid hb1
          rw [hW1] at hrun2
          clear hrun hown1 hg1 own1 rd1 hbW hsW hW1 hb1 hown hbw hch hkt hm1 hla hta x0 x1 x2 hjF
          go_wp2_with fail
          go_roundw
          case rel => exact ⟨j + 1, by omega, by go_num, HO1.out, HB1.out⟩
          case measure => simp [intOf]; omega
        · obtain rfl : j = q := by omega
          have HO := Lib.hid (show wr.ownsRow wo.heap.size 24 3 u5 F.kids.len (F.kids.top.flatMap trC) by rw [← HQ.out, F.take_len] at hown; exact hown)
          have HBW := Lib.hid hbw
          clear hown hbw
          go_wp2_with fail
          have hnew : DInv w D 1000000 (.int .i64 (d + 1 : Nat)) u5 wr F.kids.size :=
            ⟨F.kids, d + 1, rfl, rfl, by have := HK.out; omega, by omega, Rd.of_own HO.out, HTL.out.kids.below (HBW.out.mono HB.out.size), HB.out.trans (HBW.out.mono HB.out.size)⟩
          have HN := Lib.hid hnew
          clear hnew
          go_roundw
          case rel => exact ⟨_, HN.out⟩
          case measure =>
            refine Nat.lt_of_le_of_lt (least_of HN.out).2 (Nat.lt_of_lt_of_le ?_ (Nat.le_of_eq HM.out))
            have := HQ.out
            omega
end Go.Proofs.YtagdpohgicihnaaDoor
