/- Texts of one proof, one behind the other. -/
import Derived.Test.YtifdbmdfkhnojaaDoorMgSubstApplies24
/- Whether binds are right; what is too great where one comes behind another one. -/
namespace Go.Proofs.YtifdbmdfkhnojaaDoor
open Go.RowKit Go.Shelf Go.Maps Go.WideShapes
set_option maxHeartbeats 2000000 in
set_option maxRecDepth 100000 in
theorem great2_bind (w : World) (l : List Bnd) (v : Value) (hl : BdV w.heap.size w l v) :
    Calls Tryd.prog 29 #[v] w fun e w' => e = .returned (.bool (greatV l || decide (60 < tsum l))) ∧ Below w.heap.size w w' := by
  obtain ⟨A, c, rfl⟩ := hl.form
  have hcap := hl.cap
  obtain ⟨g, hg⟩ : ∃ g, greatV l = g := ⟨_, rfl⟩
  have hgf := @greatV_false l
  have hgr : ∀ W, Below w.heap.size w W → Calls Tryd.prog 8 #[.slice A l.length c] W fun e w' => e = .returned (.bool g) ∧ Below W.heap.size W w' := fun W h => by
    have := great_bind W l _ (hl.later h)
    rwa [hg] at this
  rw [hg] at hgf ⊢
  have HL := Lib.hid hl
  have HG := Lib.hid hg
  have HGF := Lib.hid hgf
  have HGR := Lib.hid hgr
  clear hgr hl hgf hg
  go_enter Tryd.func29, Tryd.ntmps29
  go_wp2
  go_loopw [3, 4] (fun s3 s4 wr => ∃ j : Nat, s4 = .int .i64 j ∧ s3 = .int .i64 (tsum (l.take j)) ∧ j ≤ l.length ∧ j ≤ 24 ∧ tsum (l.take j) ≤ 300 * j ∧ Below w.heap.size w wr) (fun _ s4 _ => 31 - (intOf s4).toNat)
  case atStart => exact ⟨0, rfl, rfl, Nat.zero_le _, by omega, by simp [tsum], Below.refl _ _⟩
  case round =>
    obtain ⟨j, rfl, rfl, hj, hj24, hsum, hb⟩ := hrel
    obtain ⟨N, hN⟩ : ∃ N, tsum (l.take j) = N := ⟨_, rfl⟩
    have HN := Lib.hid hN
    rw [hN] at hsum ⊢
    clear hN
    by_cases hjl : j < l.length
    · go_wp2_with fail
      refine (HGR.out _ hb).mono ?_
      rintro e w2 ⟨rfl, hb2⟩
      have hb02 := hb.trans (hb2.mono hb.size)
      cases g with
      | false =>
        obtain ⟨hg1, hg2, hg3⟩ := HGF.out rfl
        obtain ⟨b, off, rfl, hlt, c0, c1, c2, c3⟩ := (HL.out.below hb02).at j hjl
        have htk : l.take (j + 1) = l.take j ++ [l[j]] := by rw [List.take_succ_eq_append_getElem hjl]
        have hty : TyV w.heap.size w2 l[j].2.2.2.2 (slv l[j].2.2.2.1) := by
          obtain ⟨_, _, _, _, h2⟩ := HL.out
          exact (h2 _ (List.getElem_mem hjl)).below hb02
        have hsz := (hg2 _ (List.getElem_mem hjl)).1
        obtain ⟨x, hx⟩ : ∃ x, l[j] = x := ⟨_, rfl⟩
        rw [hx] at c0 c1 c2 c3 htk hty hsz
        obtain ⟨x0, x1, x2, ⟨A3, n3, c3'⟩, x4⟩ := x
        dsimp only [slv] at c0 c1 c2 c3 hty hsz
        have htk2 : tsum (l.take (j + 1)) = N + (1 + x4.size) := by rw [htk, tsum_app, HN.out]; simp [tsum]
        have hcs := rsize_any (x4.size + 1) x4 x1 x2 (.slice A3 n3 c3') w2 (by omega) (by omega) (hty.keep hb02.size fun _ _ _ => rfl)
        dsimp only [tyVal] at hcs
        have HTK := Lib.hid htk2
        have HB := Lib.hid hb02
        have HX := Lib.hid hx
        clear htk htk2 hty hx hb2 hb02 hg2
        go_wp2_with fail
        refine hcs.mono ?_
        rintro e w3 ⟨rfl, hb3⟩
        have f3 : IntKind.i64.wrap ((N : Int) + (1 + (x4.size : Int))) = (N : Int) + (1 + (x4.size : Int)) := IntWalk.i64_in _ (by omega)
        clear hcs
        go_wp2_with fail
        go_roundw
        case rel =>
          refine ⟨j + 1, by go_num, ?_, by omega, by omega, by rw [HTK.out]; omega, HB.out.trans (hb3.mono HB.out.size)⟩
          rw [HTK.out]; first | (push_cast; rfl) | (congr 1) | go_num
        case measure => simp [intOf]; omega
      | true =>
        go_wp2_with fail
        refine (HGR.out _ hb02).mono ?_
        rintro e w3 ⟨rfl, hb3⟩
        have HB := Lib.hid (hb02.trans (hb3.mono hb02.size))
        clear hb2 hb02 hb3
        go_wp2_with fail
        go_ret
        exact ⟨rfl, HB.out⟩
    · obtain rfl : j = l.length := by omega
      go_wp2_with fail
      refine (HGR.out _ hb).mono ?_
      rintro e w2 ⟨rfl, hb2⟩
      have HB := Lib.hid (hb.trans (hb2.mono hb.size))
      clear hb hb2
      cases g with
      | true =>
        go_wp2_with fail
        go_ret
        exact ⟨rfl, HB.out⟩
      | false =>
        have HN2 : Hid (tsum l = N) := Lib.hid (by have := HN.out; rwa [List.take_length] at this)
        by_cases h4 : N ≤ 60
        · have f3 : decide ((N : Int) > (60 : Int)) = false := by simp; omega
          go_wp2_with fail
          go_ret
          exact ⟨by rw [HN2.out, decide_eq_false (show ¬ 60 < N by omega)]; rfl, HB.out⟩
        · have f3 : decide ((N : Int) > (60 : Int)) = true := by simp; omega
          go_wp2_with fail
          go_ret
          exact ⟨by rw [HN2.out, decide_eq_true (show 60 < N by omega)]; rfl, HB.out⟩
def okB (b : Bnd) : Bool := decide (0 ≤ b.1) && decide (b.1 < 1073741824) && allAlone (Fo.cons b.2.1 b.2.2.1 b.2.2.2.1 b.2.2.2.2 .nil).pre
theorem cnt_full (l : List Bnd) : (cnt l).length = l.length ↔ ∀ j (h : j < l.length), idx l l[j].1 = j := by
  induction l with
  | nil => simp [cnt]
  | cons b l ih =>
    have hcl := cnt_cons_len b l
    have hle := cnt_len l
    constructor
    · intro h j hj
      rw [hcl, List.length_cons] at h
      have hn : (fnd l b.1).isSome = false := by
        cases hs : (fnd l b.1).isSome
        · rfl
        · rw [hs] at h; simp at h; omega
      rw [hn] at h
      simp at h
      have hno : fnd l b.1 = none := by cases hf : fnd l b.1 <;> simp_all
      cases j with
      | zero => simp [idx]
      | succ j =>
        have hj' : j < l.length := by simpa using hj
        have h1 := (ih.1 h) j hj'
        have h2 : b.1 ≠ l[j].1 := fun e => fnd_none.1 hno _ (List.getElem_mem hj') e.symm
        simp only [List.getElem_cons_succ, idx, h2, if_false, h1]
        split <;> omega
    · intro h
      have hno : fnd l b.1 = none := fnd_none.2 fun x hx e => by
        obtain ⟨j, hj, rfl⟩ := List.mem_iff_getElem.1 hx
        have := h (j + 1) (by simpa using hj)
        simp only [List.getElem_cons_succ, idx, e.symm, if_true] at this
        omega
      have : (cnt l).length = l.length := ih.2 fun j hj => by
        have h1 := h (j + 1) (by simpa using hj)
        have h2 : b.1 ≠ l[j].1 := fun e => fnd_none.1 hno _ (List.getElem_mem hj) e.symm
        simp only [List.getElem_cons_succ, idx, h2, if_false] at h1
        split at h1 <;> omega
      rw [hcl, hno, List.length_cons]
      simpa using this
theorem nat_beq (a b : Nat) : ((a : Int) == (b : Int)) = decide (a = b) := by rw [Bool.eq_iff_iff]; simp only [beq_iff_eq, decide_eq_true_eq]; omega
/-- Is it right? -/
def rgt (l : List Bnd) : Bool := l.all okB && decide ((cnt l).length = l.length)
set_option maxHeartbeats 2000000 in
set_option maxRecDepth 100000 in
theorem right_bind (w : World) (l : List Bnd) (v : Value) (hl : BdG w l v 1000000) :
    Calls Tryd.prog 14 #[v] w fun e w' => e = .returned (.bool (rgt l)) ∧ Below w.heap.size w w' := by
  obtain ⟨A, c, rfl⟩ := hl.at_.form
  have hlen := hl.len
  go_enter Tryd.func14, Tryd.ntmps14
  go_wp2
  go_loopw [7] (fun s7 wr => ∃ j : Nat, s7 = .int .i64 j ∧ j ≤ l.length ∧ (l.take j).all okB = true ∧ Below w.heap.size w wr) (fun s _ => l.length - (intOf s).toNat)
  case atStart => exact ⟨0, rfl, Nat.zero_le _, rfl, Below.refl _ _⟩
  case round =>
    obtain ⟨j, rfl, hj, hok, hb⟩ := hrel
    by_cases hjl : j < l.length
    · obtain ⟨b, off, rfl, hlt, c0, c1, c2, c3⟩ := (hl.at_.below hb).at j hjl
      have htk : l.take (j + 1) = l.take j ++ [l[j]] := by rw [List.take_succ_eq_append_getElem hjl]
      have hty := ((hl.later hb).types (Nat.le_refl _)) l[j] (List.getElem_mem hjl)
      have hall : okB l[j] = false → rgt l = false := fun h => by
        unfold rgt
        have : l.all okB = false := by
          rw [List.all_eq_false]
          exact ⟨_, List.getElem_mem hjl, by simp [h]⟩
        rw [this]; rfl
      obtain ⟨x, hx⟩ : ∃ x, l[j] = x := ⟨_, rfl⟩
      rw [hx] at c0 c1 c2 c3 htk hty hall
      obtain ⟨x0, x1, x2, ⟨A3, n3, c3'⟩, x4⟩ := x
      dsimp only [slv] at c0 c1 c2 c3 hty
      obtain ⟨w1, hw1⟩ : ∃ w1, wr.alloc (.cells #[.int .i64 x0, .int .i64 x1, .int .i64 x2, .slice A3 n3 c3'] 49) = w1 := ⟨_, rfl⟩
      have hb1 : Below wr.heap.size wr w1 := by rw [← hw1]; exact (Below.refl _ _).alloc (Nat.le_refl _) _
      have hB1 : w1.heap[wr.heap.size]? = some (.cells #[.int .i64 x0, .int .i64 x1, .int .i64 x2, .slice A3 n3 c3'] 49) := by rw [← hw1]; exact heap_alloc_new _ _
      have d0 : w1.cell? ⟨wr.heap.size, 0, none⟩ = some (.int .i64 x0) := cell_of_row w1 _ 0 _ _ (0, 0) hB1
      have d1 : w1.cell? ⟨wr.heap.size, 1, none⟩ = some (.int .i64 x1) := cell_of_row w1 _ 1 _ _ (0, 0) hB1
      have d2 : w1.cell? ⟨wr.heap.size, 2, none⟩ = some (.int .i64 x2) := cell_of_row w1 _ 2 _ _ (0, 0) hB1
      have d3 : w1.cell? ⟨wr.heap.size, 3, none⟩ = some (.slice A3 n3 c3') := cell_of_row w1 _ 3 _ _ (0, 0) hB1
      have hr := right_any w1 w1.heap.size x1 x2 (A3, n3, c3') x4 (Nat.le_refl _) (hty.1.later hb1) hty.2
      dsimp only [tyVal, slv] at hr
      have hokx : okB (x0, x1, x2, (A3, n3, c3'), x4) = (decide (0 ≤ x0) && decide (x0 < 1073741824) && allAlone (Fo.cons x1 x2 (A3, n3, c3') x4 .nil).pre) := rfl
      have htk2 : okB (x0, x1, x2, (A3, n3, c3'), x4) = true → (l.take (j + 1)).all okB = true := fun h => by rw [htk, List.all_append, hok]; simp [h]
      have HR := Lib.hid hr
      have HALL := Lib.hid hall
      have HOK := Lib.hid hokx
      have HTK := Lib.hid htk2
      have HB := Lib.hid (hb.trans (hb1.mono hb.size))
      have HX := Lib.hid hx
      have HL := Lib.hid hl
      clear hr hall hokx htk htk2 hty hx hok hb hb1 hl hB1
      by_cases h0 : x0 < 0
      · have f1 : decide (x0 < 0) = true := decide_eq_true h0
        go_wp2
        go_ret
        exact ⟨by rw [HALL.out (by rw [HOK.out, decide_eq_false (by omega)]; rfl)]; rfl, HB.out⟩
      · have f1 : decide (x0 < 0) = false := decide_eq_false h0
        by_cases h2 : 1073741824 ≤ x0
        · have f2 : decide (x0 ≥ 1073741824) = true := decide_eq_true h2
          go_wp2
          go_ret
          exact ⟨by rw [HALL.out (by rw [HOK.out, decide_eq_false (show ¬ x0 < 1073741824 by omega)]; simp)]; rfl, HB.out⟩
        · have f2 : decide (x0 ≥ 1073741824) = false := decide_eq_false h2
          go_wp2_with fail
          refine HR.out.mono ?_
          rintro e w2 ⟨rfl, hb2⟩
          have HB2 := Lib.hid (HB.out.trans (hb2.mono HB.out.size))
          clear hb2
          have hv : okB (x0, x1, x2, (A3, n3, c3'), x4) = allAlone (Fo.cons x1 x2 (A3, n3, c3') x4 .nil).pre := by rw [HOK.out, decide_eq_true (show 0 ≤ x0 by omega), decide_eq_true (show x0 < 1073741824 by omega)]; rfl
          cases hal : allAlone (Fo.cons x1 x2 (A3, n3, c3') x4 .nil).pre
          · rw [hal] at hv
            have HV := Lib.hid hv
            clear hv
            go_wp2_with fail
            go_ret
            exact ⟨by rw [HALL.out HV.out]; rfl, HB2.out⟩
          · rw [hal] at hv
            have HV := Lib.hid hv
            clear hv
            go_wp2_with fail
            go_roundw
            case rel => exact ⟨j + 1, by go_num, by omega, HTK.out HV.out, HB2.out⟩
            case measure => simp [intOf]; omega
    · obtain rfl : j = l.length := by omega
      rw [List.take_length] at hok
      have hby := byvar_any wr wr.heap.size l _ (Nat.le_refl _) (hl.later hb).at_ hl.wf hl.len
      have HBY := Lib.hid hby
      have HOK := Lib.hid hok
      clear hby hok hl
      go_wp2_with fail
      refine HBY.out.mono ?_
      rintro e w2 ⟨bm, rfl, _, hm, hb2⟩
      have hln := hm.len bindsTy 3
      have HB := Lib.hid (hb.trans (hb2.mono hb.size))
      clear hb hb2 hm
      go_wp2_with fail
      go_ret
      refine ⟨?_, HB.out⟩
      unfold rgt
      rw [HOK.out]
      rw [Bool.true_and, ← nat_beq]
      rfl
set_option maxHeartbeats 2000000 in
set_option maxRecDepth 100000 in
theorem rright_bind (w : World) (l : List Bnd) (v : Value) (hl : BdG w l v 1000000) :
    Calls Tryd.prog 15 #[v] w fun e w' => e = .returned (.bool (rgt l)) ∧ Below w.heap.size w w' := by
  obtain ⟨A, c, rfl⟩ := hl.at_.form
  have hlen := hl.len
  go_enter Tryd.func15, Tryd.ntmps15
  go_wp2
  go_loopw [3] (fun s3 wr => ∃ j : Nat, s3 = .int .i64 j ∧ j ≤ l.length ∧ (l.take j).all okB = true ∧ (∀ i (h : i < l.length), i < j → idx l l[i].1 = i) ∧ Below w.heap.size w wr) (fun s _ => l.length - (intOf s).toNat)
  case atStart => exact ⟨0, rfl, Nat.zero_le _, rfl, fun i _ h => by omega, Below.refl _ _⟩
  case round =>
    obtain ⟨j, rfl, hj, hok, hcs, hb⟩ := hrel
    by_cases hjl : j < l.length
    · have htk : l.take (j + 1) = l.take j ++ [l[j]] := by rw [List.take_succ_eq_append_getElem hjl]
      have hall : okB l[j] = false → rgt l = false := fun h => by
        unfold rgt
        have : l.all okB = false := by
          rw [List.all_eq_false]
          exact ⟨_, List.getElem_mem hjl, by simp [h]⟩
        rw [this]; rfl
      have hcall : idx l l[j].1 ≠ j → rgt l = false := fun h => by
        unfold rgt
        rw [decide_eq_false (fun h2 => h ((cnt_full l).1 h2 j hjl))]
        simp
      have hc := rcounts_any wr l _ (hl.later hb).at_ (by omega) j hjl
      have hcs2 : idx l l[j].1 = j → ∀ i (h : i < l.length), i < j + 1 → idx l l[i].1 = i := fun h0 i hi hij => by
        by_cases e : i = j
        · subst e; exact h0
        · exact hcs i hi (by omega)
      have hat : ∀ W, Below w.heap.size w W → ∃ b off, A = some ⟨b, off, none⟩ ∧ b < w.heap.size ∧
        W.cell? ⟨b, off + j * 4, none⟩ = some (.int .i64 l[j].1) ∧ W.cell? ⟨b, off + j * 4 + 1, none⟩ = some (.int .i64 l[j].2.1) ∧ W.cell? ⟨b, off + j * 4 + 2, none⟩ = some (.int .i64 l[j].2.2.1) ∧ W.cell? ⟨b, off + j * 4 + 3, none⟩ = some (slv l[j].2.2.2.1) ∧ TyV W.heap.size W l[j].2.2.2.2 (slv l[j].2.2.2.1) ∧ l[j].2.2.2.2.size < 1000000 := fun W h => by
        obtain ⟨b, off, h1, h2, c0, c1, c2, c3⟩ := (hl.at_.below h).at j hjl
        have := (hl.later h).types (Nat.le_refl _) l[j] (List.getElem_mem hjl)
        exact ⟨b, off, h1, h2, c0, c1, c2, c3, this.1, this.2⟩
      obtain ⟨x, hx⟩ : ∃ x, l[j] = x := ⟨_, rfl⟩
      rw [hx] at htk hall hcall hc hcs2 hat
      obtain ⟨x0, x1, x2, ⟨A3, n3, c3'⟩, x4⟩ := x
      dsimp only [slv] at hat
      obtain ⟨b, off, rfl, hlt, c0, c1, c2, c3, _, _⟩ := hat wr hb
      have hokx : okB (x0, x1, x2, (A3, n3, c3'), x4) = (decide (0 ≤ x0) && decide (x0 < 1073741824) && allAlone (Fo.cons x1 x2 (A3, n3, c3') x4 .nil).pre) := rfl
      have htk2 : okB (x0, x1, x2, (A3, n3, c3'), x4) = true → (l.take (j + 1)).all okB = true := fun h => by rw [htk, List.all_append, hok]; simp [h]
      obtain ⟨z, hz⟩ : ∃ z, idx l x0 = z := ⟨_, rfl⟩
      dsimp only at hc hcall hcs2
      rw [hz] at hc hcall hcs2
      have HC := Lib.hid hc
      have HALL := Lib.hid hall
      have HCA := Lib.hid hcall
      have HCS := Lib.hid hcs2
      have HAT := Lib.hid hat
      have HOK := Lib.hid hokx
      have HTK := Lib.hid htk2
      have HX := Lib.hid hx
      clear hc hall hcall hcs hcs2 hat hokx htk htk2 hx hok hz hl
      go_wp2_with fail
      refine HC.out.mono ?_
      rintro e w1 ⟨rfl, hb1⟩
      have HB := Lib.hid (hb.trans (hb1.mono hb.size))
      clear hb hb1 HC c0 c1 c2 c3
      by_cases hzj : z = (j : Int)
      · subst hzj
        have f0 : ((j : Int) == (j : Int)) = true := by simp
        obtain ⟨b', off', he, hlt', c0, c1, c2, c3, ht1, ht2⟩ := HAT.out w1 HB.out
        injection he with he
        injection he with e1 e2
        subst e1; subst e2
        by_cases h0 : x0 < 0
        · have f1 : decide (x0 < 0) = true := decide_eq_true h0
          have hv := HALL.out (by rw [HOK.out, decide_eq_false (show ¬ 0 ≤ x0 by omega)]; rfl)
          have HV := Lib.hid hv
          clear hv
          go_wp2
          go_ret
          exact ⟨by rw [HV.out]; rfl, HB.out⟩
        · have f1 : decide (x0 < 0) = false := decide_eq_false h0
          by_cases h2 : 1073741824 ≤ x0
          · have f2 : decide (x0 ≥ 1073741824) = true := decide_eq_true h2
            have hv := HALL.out (by rw [HOK.out, decide_eq_false (show ¬ x0 < 1073741824 by omega)]; simp)
            have HV := Lib.hid hv
            clear hv
            go_wp2
            go_ret
            exact ⟨by rw [HV.out]; rfl, HB.out⟩
          · have f2 : decide (x0 ≥ 1073741824) = false := decide_eq_false h2
            have hr := rright_any (x4.size + 1) x4 x1 x2 (.slice A3 n3 c3') w1 (by omega) (by omega) ht1
            have hv : okB (x0, x1, x2, (A3, n3, c3'), x4) = (alone x1 x2 x4.len && allAlone x4.pre) := by
              have hln := TyV.len (u := (A3, n3, c3')) ht1
              rw [HOK.out, decide_eq_true (show 0 ≤ x0 by omega), decide_eq_true (show x0 < 1073741824 by omega)]
              simp only [Bool.true_and, Fo.pre, List.append_nil, allAlone_cons]
              rw [← hln]
            dsimp only [tyVal] at hr
            have HR := Lib.hid hr
            have HV := Lib.hid hv
            clear hr hv ht1
            go_wp2_with fail
            refine HR.out.mono ?_
            rintro e w2 ⟨rfl, hb2⟩
            have HB2 := Lib.hid (HB.out.trans (hb2.mono HB.out.size))
            have hv := HV.out
            clear hb2 HR
            cases hal : (alone x1 x2 x4.len && allAlone x4.pre)
            · rw [hal] at hv
              have HV2 := Lib.hid (HALL.out hv)
              clear hv hal
              go_wp2_with fail
              go_ret
              exact ⟨by rw [HV2.out]; rfl, HB2.out⟩
            · rw [hal] at hv
              have HV2 := Lib.hid hv
              clear hv hal
              go_wp2_with fail
              go_roundw
              case rel => exact ⟨j + 1, by go_num, by omega, HTK.out HV2.out, (by first | exact HCS.out rfl | exact HCS.out trivial), HB2.out⟩
              case measure => simp [intOf]; omega
      · have f0 : (z == (j : Int)) = false := by simp [hzj]
        have HV := Lib.hid (HCA.out hzj)
        go_wp2_with fail
        go_ret
        exact ⟨by rw [HV.out]; rfl, HB.out⟩
    · obtain rfl : j = l.length := by omega
      rw [List.take_length] at hok
      have hv : rgt l = true := by
        unfold rgt
        rw [hok, decide_eq_true ((cnt_full l).2 fun i hi => hcs i hi hi)]
        rfl
      have HV := Lib.hid hv
      clear hok hcs hv hl
      go_wp2_with fail
      go_ret
      exact ⟨by rw [HV.out]; rfl, hb⟩
end Go.Proofs.YtifdbmdfkhnojaaDoor
