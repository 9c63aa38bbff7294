/- types.Shift. -/
import Derived.Test.YtagdpohgicihnaaDoorChD
import Derived.Test.YtagdpohgicihnaaDoorLaA
namespace Go.Proofs.YtagdpohgicihnaaDoor
open Go.RowKit Go.Shelf

set_option maxRecDepth 100000 in
set_option maxHeartbeats 2000000 in
theorem shift1_any (b7 b5 b6 : Nat) (fr to by_ : Int) (W : World) (h7 : W.cell? ⟨b7, 0, none⟩ = some (.int .i64 by_)) (h5 : W.cell? ⟨b5, 0, none⟩ = some (.int .i64 fr)) (h6 : W.cell? ⟨b6, 0, none⟩ = some (.int .i64 to)) (n : Int) :
    Calls Tryd.prog 49 (#[.int .i64 n] ++ #[.pointer (some ⟨b7, 0, none⟩), .pointer (some ⟨b5, 0, none⟩), .pointer (some ⟨b6, 0, none⟩)]) W fun e W' => e = .returned (.int .i64 (shn fr to by_ n)) ∧ W' = W := by
  show Calls _ _ #[.int .i64 n, .pointer (some ⟨b7, 0, none⟩), .pointer (some ⟨b5, 0, none⟩), .pointer (some ⟨b6, 0, none⟩)] _ _
  obtain ⟨s, hs⟩ : ∃ s, wrap64 (n + by_) = s := ⟨_, rfl⟩
  obtain ⟨p, hp⟩ : ∃ p, (decide (0 ≤ n) && decide (n < 1073741824)) = p := ⟨_, rfl⟩
  obtain ⟨q, hq⟩ : ∃ q, (decide (0 ≤ s) && decide (s < 1073741824)) = q := ⟨_, rfl⟩
  have hn := number_any n
  have hn2 := number_any s
  rw [hp] at hn
  rw [hq] at hn2
  have hsh : shn fr to by_ n = if p && decide (fr ≤ n) && decide (n < to) && q then s else n := by
    unfold shn
    simp only [hs, hp, hq]
  have HN := Lib.hid hn
  have HN2 := Lib.hid hn2
  have HS := Lib.hid hsh
  clear hn hn2 hsh hp hq
  cases p with
  | false =>
    go_enter Tryd.func49, Tryd.ntmps49
    go_wp2_with (go_at_call 50; refine (HN.out _).mono ?_; rintro e w' ⟨rfl, hw'⟩; subst w')
    go_ret
    exact ⟨by rw [HS.out]; simp, rfl⟩
  | true =>
    by_cases h1 : fr ≤ n
    · have f1 : decide (fr ≤ n) = true := decide_eq_true h1
      by_cases h2 : n < to
      · have f2 : decide (n < to) = true := decide_eq_true h2
        cases q with
        | false =>
          go_enter Tryd.func49, Tryd.ntmps49
          go_wp2_with (first
            | (go_at_call 50; refine (HN.out _).mono ?_; rintro e w' ⟨rfl, hw'⟩; subst w')
            | (go_at_call 50; refine (HN2.out _).mono ?_; rintro e w' ⟨rfl, hw'⟩; subst w')
            | fail)
          go_ret
          exact ⟨by rw [HS.out]; simp, rfl⟩
        | true =>
          go_enter Tryd.func49, Tryd.ntmps49
          go_wp2_with (first
            | (go_at_call 50; refine (HN.out _).mono ?_; rintro e w' ⟨rfl, hw'⟩; subst w')
            | (go_at_call 50; refine (HN2.out _).mono ?_; rintro e w' ⟨rfl, hw'⟩; subst w')
            | fail)
          go_ret
          exact ⟨by rw [HS.out]; simp [h1, h2], rfl⟩
      · have f2 : decide (n < to) = false := decide_eq_false h2
        go_enter Tryd.func49, Tryd.ntmps49
        go_wp2_with (go_at_call 50; refine (HN.out _).mono ?_; rintro e w' ⟨rfl, hw'⟩; subst w')
        go_ret
        exact ⟨by rw [HS.out, f2]; simp, rfl⟩
    · have f1 : decide (fr ≤ n) = false := decide_eq_false h1
      go_enter Tryd.func49, Tryd.ntmps49
      go_wp2_with (go_at_call 50; refine (HN.out _).mono ?_; rintro e w' ⟨rfl, hw'⟩; subst w')
      go_ret
      exact ⟨by rw [HS.out, f1]; simp, rfl⟩
set_option maxRecDepth 100000 in
set_option maxHeartbeats 2000000 in
theorem shift_any (w : World) (k n fr to by_ : Int) (u : Sl) (ps : Fo) (hps : TyV w.heap.size w ps (slv u)) (hs : ps.size < 1000000) :
    Calls Tryd.prog 30 #[tyVal k n (slv u), .int .i64 fr, .int .i64 to, .int .i64 by_] w fun e w' => ∃ u' : Sl, e = .returned (tyVal k (nm (shn fr to by_) k n) (slv u')) ∧ Below w.heap.size w w' ∧ FreshT 24 w.heap.size w' (shn fr to by_) ps u' := by
  obtain ⟨u1, u2, u3⟩ := u
  obtain ⟨w2, hw2⟩ : ∃ w2, ((((w.alloc (.cells #[.int .i64 k, .int .i64 n, .slice u1 u2 u3] 24)).alloc (.cells #[.int .i64 fr] 3)).alloc (.cells #[.int .i64 to] 3)).alloc (.cells #[.int .i64 by_] 3)).alloc (.cells #[.int .i64 0, .int .i64 0, .slice none 0 0] 24) = w2 := ⟨_, rfl⟩
  have hs2 : w2.heap.size = w.heap.size + 1 + 1 + 1 + 1 + 1 := by rw [← hw2]; simp
  have hb2 : Below w.heap.size w w2 := by rw [← hw2]; exact (((((Below.refl _ w).alloc (Nat.le_refl _) _).alloc (by simp) _).alloc (by simp only [World.size_alloc]; omega) _).alloc (by simp only [World.size_alloc]; omega) _).alloc (by simp only [World.size_alloc]; omega) _
  have lift : ∀ (X : World) (o : Obj) (j : Nat), j < X.heap.size → (X.alloc o).heap[j]? = X.heap[j]? := fun X o j h => Below.heap_alloc _ _ _ h
  have h0 : w2.heap[w.heap.size]? = some (.cells #[.int .i64 k, .int .i64 n, .slice u1 u2 u3] 24) := by
    rw [← hw2, lift _ _ _ (by simp only [World.size_alloc]; omega), lift _ _ _ (by simp only [World.size_alloc]; omega), lift _ _ _ (by simp only [World.size_alloc]; omega), lift _ _ _ (by simp)]
    exact heap_alloc_new w _
  have h5 : w2.heap[w.heap.size + 1]? = some (.cells #[.int .i64 fr] 3) := by
    rw [← hw2, lift _ _ _ (by simp only [World.size_alloc]; omega), lift _ _ _ (by simp only [World.size_alloc]; omega), lift _ _ _ (by simp only [World.size_alloc]; omega)]
    have := heap_alloc_new (w.alloc (.cells #[.int .i64 k, .int .i64 n, .slice u1 u2 u3] 24)) (.cells #[.int .i64 fr] 3)
    rwa [World.size_alloc] at this
  have h6 : w2.heap[w.heap.size + 1 + 1]? = some (.cells #[.int .i64 to] 3) := by
    rw [← hw2, lift _ _ _ (by simp only [World.size_alloc]; omega), lift _ _ _ (by simp only [World.size_alloc]; omega)]
    have := heap_alloc_new ((w.alloc (.cells #[.int .i64 k, .int .i64 n, .slice u1 u2 u3] 24)).alloc (.cells #[.int .i64 fr] 3)) (.cells #[.int .i64 to] 3)
    simpa only [World.size_alloc] using this
  have h7 : w2.heap[w.heap.size + 1 + 1 + 1]? = some (.cells #[.int .i64 by_] 3) := by
    rw [← hw2, lift _ _ _ (by simp only [World.size_alloc]; omega)]
    have := heap_alloc_new (((w.alloc (.cells #[.int .i64 k, .int .i64 n, .slice u1 u2 u3] 24)).alloc (.cells #[.int .i64 fr] 3)).alloc (.cells #[.int .i64 to] 3)) (.cells #[.int .i64 by_] 3)
    simpa only [World.size_alloc] using this
  have h8 : w2.heap[w.heap.size + 1 + 1 + 1 + 1]? = some (.cells rt0 24) := by
    rw [← hw2]
    have := heap_alloc_new ((((w.alloc (.cells #[.int .i64 k, .int .i64 n, .slice u1 u2 u3] 24)).alloc (.cells #[.int .i64 fr] 3)).alloc (.cells #[.int .i64 to] 3)).alloc (.cells #[.int .i64 by_] 3)) (.cells #[.int .i64 0, .int .i64 0, .slice none 0 0] 24)
    simp only [World.size_alloc] at this
    exact this
  have c0 : w2.cell? ⟨w.heap.size, 0, none⟩ = some (.int .i64 k) := cell_of_row w2 w.heap.size 0 _ _ (0, 0) h0
  have c1 : w2.cell? ⟨w.heap.size, 1, none⟩ = some (.int .i64 n) := cell_of_row w2 w.heap.size 1 _ _ (0, 0) h0
  have c2 : w2.cell? ⟨w.heap.size, 2, none⟩ = some (.slice u1 u2 u3) := cell_of_row w2 w.heap.size 2 _ _ (0, 0) h0
  have hc := change_any (shn fr to by_) 49 #[.pointer (some ⟨w.heap.size + 1 + 1 + 1, 0, none⟩), .pointer (some ⟨w.heap.size + 1, 0, none⟩), .pointer (some ⟨w.heap.size + 1 + 1, 0, none⟩)] (enters_of Tryd.func49 (by kernel_rfl) rfl) w2 k n (u1, u2, u3) ps ((hps.below hb2).keep hb2.size fun _ _ _ => rfl) hs
    (fun m W hb => shift1_any _ _ _ fr to by_ W (cell_of_row W _ 0 _ _ (0, 0) ((hb.block _ (by omega)).trans h7)) (cell_of_row W _ 0 _ _ (0, 0) ((hb.block _ (by omega)).trans h5)) (cell_of_row W _ 0 _ _ (0, 0) ((hb.block _ (by omega)).trans h6)) m)
  have HC := Lib.hid hc
  have HB := Lib.hid hb2
  have H1 := Lib.hid h8
  clear hps hc hb2 h0 h5 h6 h7 h8 lift
  dsimp only [tyVal, slv] at HC ⊢
  go_enter Tryd.func30, Tryd.ntmps30
  go_wp2_with fail
  refine HC.out.mono ?_
  rintro e w3 ⟨u', rfl, hb3, hf⟩
  obtain ⟨r0, r1, r2, z0, z1, z2, w4, hw4, hld, hsz, hfar, hbl⟩ := ret_cells (w := w3) (w.heap.size + 1 + 1 + 1 + 1) k (nm (shn fr to by_) k n) u' ((hb3.block _ (by omega)).trans H1.out)
  have HL := Lib.hid hld
  have HF := Lib.hid hf
  have HFR := Lib.hid hfar
  have hs3 := hb3.size
  obtain ⟨u1', u2', u3'⟩ := u'
  dsimp only [tyVal, slv] at hw4 ⊢
  clear hld hf hfar
  go_wp2_with fail
  refine bodyPost_ret (results_box rfl _ _ _ _ rfl HL.out) rfl ?_
  have hb4 : Below w.heap.size w w4 := (HB.out.trans (hb3.mono (by omega))).trans (hbl.mono (by omega))
  refine ⟨(u1', u2', u3'), rfl, hb4, FreshT.mono (HF.out.to (by omega) fun b cs hb hc => (HFR.out b (by omega)).trans hc) (by omega)⟩
end Go.Proofs.YtagdpohgicihnaaDoor
