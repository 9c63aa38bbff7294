/- The answer's Depth. -/
import Derived.Test.YtagdpohgicihnaaDoorTyA
namespace Go.Proofs.YtagdpohgicihnaaDoor
open Go.RowKit

namespace Fo
theorem depth_app (f g : Fo) : (f.app g).depth = max f.depth g.depth := by
  induction f with
  | nil => simp [app, depth]
  | cons k n u ps r _ ih => simp [app, depth, ih] <;> omega
theorem depth_le_size (f : Fo) : f.depth ≤ f.size := by
  induction f with
  | nil => simp [depth]
  | cons k n u ps r ih1 ih2 => simp only [depth, size]; omega
theorem depth_take_step (f : Fo) (j : Nat) (hj : j < f.len) : (f.take (j + 1)).depth = max (f.take j).depth (1 + (f.at_ j).2.2.2.depth) := by
  rw [take_step f j hj, depth_app]
  simp [depth]
theorem depth_take_le (f : Fo) (j : Nat) : (f.take j).depth ≤ f.depth := by
  induction f generalizing j with
  | nil => cases j <;> simp [take]
  | cons k n u ps r _ ih =>
    cases j with
    | zero => simp [take, depth]
    | succ j => have := ih j; simp only [take, depth]; omega
end Fo
set_option maxHeartbeats 1000000 in
set_option maxRecDepth 100000 in
theorem rdepth_any (m : Nat) : ∀ (f : Fo) (k n : Int) (v : Value) (w : World), f.size < m → f.size ≤ 1000000 → TyV w.heap.size w f v →
    Calls Tryd.prog 18 #[tyVal k n v] w fun e w' => e = .returned (.int .i64 (1 + f.depth)) ∧ Below w.heap.size w w' := by
  induction m with
  | zero => intro f k n v w h; omega
  | succ m ih =>
    intro f k n v w hm hs h
    obtain ⟨A, c, rfl⟩ := h.slice
    have H := Lib.hid h
    have IH := Lib.hid ih
    have hll := f.len_le_size
    clear h ih
    unfold tyVal
    go_enter Tryd.func18, Tryd.ntmps18
    go_wp2_with fail
    go_loopw [3, 4] (fun t3 t4 wr => ∃ j : Nat, j ≤ f.len ∧ t4 = .int .i64 j ∧ t3 = .int .i64 (1 + (f.take j).depth) ∧ Below (w.heap.size + 1) (w.alloc (.cells #[.int .i64 k, .int .i64 n, .slice A f.len c] 24)) wr) (fun _ t _ => f.len - (intOf t).toNat)
    case atStart => exact ⟨0, Nat.zero_le _, rfl, by simp [Fo.take_zero, Fo.depth], Below.refl _ _⟩
    case round =>
      obtain ⟨j, hj, rfl, rfl, hb⟩ := hrel
      have e2 : wr.cell? ⟨w.heap.size, 2, none⟩ = some (.slice A f.len c) := (hb.cell (p := ⟨w.heap.size, 2, none⟩) (by simp)).trans (by go_simp)
      have HB : Hid (Below w.heap.size w wr) := Lib.hid (((Below.refl _ _).alloc (Nat.le_refl _) _).trans (hb.mono (by omega)))
      have hz := hb.size
      simp only [World.size_alloc] at hz
      by_cases hjl : j < f.len
      · obtain ⟨b, off, cap, hv, _, _, hlt, hC⟩ := H.out.form (by omega)
        injection hv with hA _ hcc
        subst hA; subst hcc
        obtain ⟨d0, d1, d2, hch⟩ := tyC_at hC j hjl
        have c0 := (HB.out.cell (p := ⟨b, off + j * 3, none⟩) hlt).trans d0
        have c1 := (HB.out.cell (p := ⟨b, off + j * 3 + 1, none⟩) hlt).trans d1
        have c2 := (HB.out.cell (p := ⟨b, off + j * 3 + 2, none⟩) hlt).trans d2
        have hch' : TyV wr.heap.size wr (f.at_ j).2.2.2 (slv (f.at_ j).2.2.1) := (hch.keep HB.out.size fun b off hb' => HB.out.cell (p := ⟨b, off, none⟩) hb')
        have hsz := f.at_size j hjl
        have hst := f.depth_take_step j hjl
        have hle := (f.at_ j).2.2.2.depth_le_size
        have hlf := Nat.le_trans (f.depth_take_le j) f.depth_le_size
        clear d0 d1 d2 hC hch
        have hrec := IH.out (f.at_ j).2.2.2 (f.at_ j).1 (f.at_ j).2.1 (slv (f.at_ j).2.2.1) wr (by omega) (by omega) hch'
        unfold tyVal at hrec
        generalize f.at_ j = p at *
        obtain ⟨pk, pn, pv, pf⟩ := p
        have HREC := Lib.hid hrec
        have HST := Lib.hid hst
        have hb1 : 0 ≤ (pf.depth : Int) ∧ (pf.depth : Int) ≤ 1000000 := by simp only at hsz hle; omega
        have hb2 : ((f.take j).depth : Int) ≤ 1000000 := by omega
        clear hrec hst hch'
        go_wp2_with fail
        refine HREC.out.mono ?_
        rintro e w2 ⟨rfl, hb3⟩
        obtain ⟨dd, hdd⟩ : ∃ dd, (f.take j).depth = dd := ⟨_, rfl⟩
        obtain ⟨de, hde⟩ : ∃ de, pf.depth = de := ⟨_, rfl⟩
        rw [hdd] at hb2 ⊢
        rw [hde] at hb1 ⊢
        by_cases hgt : dd < de + 1
        · have hnew : (f.take (j + 1)).depth = 1 + de := by rw [HST.out]; omega
          have HN := Lib.hid hnew
          have f1 : decide ((1 : Int) + dd < 1 + de + 1) = true := decide_eq_true (by omega)
          clear hnew hdd hde
          go_wp2_with fail
          go_roundw
          case rel => exact ⟨j + 1, by omega, by go_num, by rw [HN.out]; congr 1; omega, hb.trans (hb3.mono hz)⟩
          case measure => simp [intOf]; omega
        · have hnew : (f.take (j + 1)).depth = dd := by rw [HST.out]; omega
          have HN := Lib.hid hnew
          have f1 : decide ((1 : Int) + dd < 1 + de + 1) = false := decide_eq_false (by omega)
          clear hnew hdd hde
          go_wp2_with fail
          go_roundw
          case rel => exact ⟨j + 1, by omega, by go_num, by rw [HN.out], hb.trans (hb3.mono hz)⟩
          case measure => simp [intOf]; omega
      · obtain rfl : j = f.len := by omega
        have HT : Hid (f.take f.len = f) := Lib.hid f.take_len
        go_wp2_with fail
        go_ret
        exact ⟨ret_int (by rw [HT.out]), HB.out⟩
end Go.Proofs.YtagdpohgicihnaaDoor
