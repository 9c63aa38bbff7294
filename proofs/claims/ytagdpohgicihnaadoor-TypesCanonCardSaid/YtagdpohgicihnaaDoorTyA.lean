/- The contracts of the answer's Size and of what guards the laws. -/
import Derived.Test.YtagdpohgicihnaaDoorRows
import Derived.Test.YtagdpohgicihnaaDoorTyM
import Derived.Deep.QuietTactic
import Derived.BigQuiet
namespace Go.Proofs.YtagdpohgicihnaaDoor
open Go.RowKit

theorem ret_int {k : IntKind} {a b : Int} (h : a = b) : Ending.returned (.int k a) = .returned (.int k b) := by rw [h]
theorem ret_bool {a b : Bool} (h : a = b) : Ending.returned (.bool a) = .returned (.bool b) := by rw [h]
set_option maxHeartbeats 1000000 in
set_option maxRecDepth 100000 in
theorem rsize_any (m : Nat) : ∀ (f : Fo) (k n : Int) (v : Value) (w : World), f.size < m → f.size ≤ 1000000 → TyV w.heap.size w f v →
    Calls Tryd.prog 16 #[tyVal k n v] w fun e w' => e = .returned (.int .i64 (1 + f.size)) ∧ Below w.heap.size w w' := by
  induction m with
  | zero => intro f k n v w h; omega
  | succ m ih =>
    intro f k n v w hm hs h
    obtain ⟨A, c, rfl⟩ := h.slice
    have H := Lib.hid h
    have IH := Lib.hid ih
    have hll := f.len_le_size
    clear h ih
    unfold tyVal
    go_enter Tryd.func16, Tryd.ntmps16
    go_wp2_with fail
    go_loopw [3, 4] (fun t3 t4 wr => ∃ j : Nat, j ≤ f.len ∧ t4 = .int .i64 j ∧ t3 = .int .i64 (1 + (f.take j).size) ∧ Below (w.heap.size + 1) (w.alloc (.cells #[.int .i64 k, .int .i64 n, .slice A f.len c] 24)) wr) (fun _ t _ => f.len - (intOf t).toNat)
    case atStart => exact ⟨0, Nat.zero_le _, rfl, by simp [Fo.take_zero, Fo.size], Below.refl _ _⟩
    case round =>
      obtain ⟨j, hj, rfl, rfl, hb⟩ := hrel
      have e2 : wr.cell? ⟨w.heap.size, 2, none⟩ = some (.slice A f.len c) := (hb.cell (p := ⟨w.heap.size, 2, none⟩) (by simp)).trans (by go_simp)
      have HB : Hid (Below w.heap.size w wr) := Lib.hid (((Below.refl _ _).alloc (Nat.le_refl _) _).trans (hb.mono (by omega)))
      have hz := hb.size
      simp only [World.size_alloc] at hz
      have hts := f.size_take_le j
      by_cases hjl : j < f.len
      · obtain ⟨b, off, cap, hv, _, _, hlt, hC⟩ := H.out.form (by omega)
        injection hv with hA _ hcc
        subst hA; subst hcc
        obtain ⟨d0, d1, d2, hch⟩ := tyC_at hC j hjl
        have c0 := (HB.out.cell (p := ⟨b, off + j * 3, none⟩) hlt).trans d0
        have c1 := (HB.out.cell (p := ⟨b, off + j * 3 + 1, none⟩) hlt).trans d1
        have c2 := (HB.out.cell (p := ⟨b, off + j * 3 + 2, none⟩) hlt).trans d2
        have hch' : TyV wr.heap.size wr (f.at_ j).2.2.2 (slv (f.at_ j).2.2.1) := (hch.keep HB.out.size fun b off hb' => HB.out.cell (p := ⟨b, off, none⟩) hb')
        have hsz := f.at_size j hjl
        have hst := f.size_take_step j hjl
        have hle := f.size_take_le (j + 1)
        clear d0 d1 d2 hC hch
        have hrec := IH.out (f.at_ j).2.2.2 (f.at_ j).1 (f.at_ j).2.1 (slv (f.at_ j).2.2.1) wr (by omega) (by omega) hch'
        unfold tyVal at hrec
        generalize f.at_ j = p at *
        obtain ⟨pk, pn, pv, pf⟩ := p
        have HREC := Lib.hid hrec
        have HST := Lib.hid hst
        have hb1 : 0 ≤ (pf.size : Int) ∧ (pf.size : Int) ≤ 1000000 := by simp only at hsz; omega
        have hb2 : ((f.take j).size : Int) ≤ 1000000 := by omega
        clear hrec hst hch'
        go_wp2_with fail
        refine HREC.out.mono ?_
        rintro e w2 ⟨rfl, hb3⟩
        go_wp2_with fail
        go_roundw
        case rel => exact ⟨j + 1, by omega, by go_num, by rw [HST.out]; congr 1; omega, hb.trans (hb3.mono hz)⟩
        case measure => simp [intOf]; omega
      · obtain rfl : j = f.len := by omega
        have HT : Hid (f.take f.len = f) := Lib.hid f.take_len
        go_wp2_with fail
        go_ret
        exact ⟨ret_int (by rw [HT.out]), HB.out⟩
end Go.Proofs.YtagdpohgicihnaaDoor
