/- The walk of the law LexApart, out of the contracts of Words and the examples. -/
import Derived.Test.YtlifkfihpmkffaaLexF
import Derived.Test.YtlifkfihpmkffaaLexQ
import Derived.Test.YtlifkfihpmkffaaLexK
namespace Go.Proofs.Ytlifkfihpmkffaa
open Go.RowKit

theorem bs_append (a b : ByteArray) : bs (a ++ b) = bs a ++ bs b := by
  unfold bs
  rw [ByteArray.data_append, Array.toList_append, List.map_append]
theorem bs_feed (a b : ByteArray) : bs (a ++ (⟨#[10]⟩ : ByteArray) ++ b) = bs a ++ 10 :: bs b := by
  rw [bs_append, bs_append, List.append_assoc]; rfl

theorem feed_size (a b : ByteArray) : (a ++ (⟨#[10]⟩ : ByteArray) ++ b).size = a.size + 1 + b.size := by
  rw [← bs_length, bs_feed]
  simp [bs_length]
  omega
theorem words_loose (s : ByteArray) (w : World) (hs : s.size ≤ 1000000) :
    Calls Try.prog 29 #[.string s] w fun e w' => Below w.heap.size w w' ∧ ∃ (v : Value) (at_ er : Int), e = .returned (.tuple #[v, .int .i64 at_, .int .i64 er]) :=
  (words_any s w hs).mono fun e w' ⟨hb, h⟩ => by
    refine ⟨hb, ?_⟩
    rcases hE : wordsE (bs s) with ⟨p, er⟩ | ts
    · rw [hE] at h; exact ⟨_, _, _, h⟩
    · rw [hE] at h
      obtain ⟨v, h, _⟩ := h
      exact ⟨_, _, _, h⟩
theorem extract_left (a b : ByteArray) (i j : Nat) (h : j ≤ a.size) : (a ++ (⟨#[10]⟩ : ByteArray) ++ b).extract i j = a.extract i j := by
  apply bs_inj
  rw [bs_extract, bs_extract, bs_feed, sub_left _ _ _ _ (by rw [bs_length]; exact h)]
theorem extract_right (a b : ByteArray) (i j : Nat) : (a ++ (⟨#[10]⟩ : ByteArray) ++ b).extract (a.size + 1 + i) (a.size + 1 + j) = b.extract i j := by
  apply bs_inj
  rw [bs_extract, bs_extract, bs_feed]
  have h := sub_right (bs a ++ [10]) (bs b) i j
  have hl : (bs a ++ [10]).length = a.size + 1 := by simp [bs_length]
  rw [hl, List.append_assoc] at h
  exact h
/-- The whole's tokens, up to the first part's last one, are the first part's. -/
theorem apart_left (a b : ByteArray) (ts us : List (Int × Nat × Nat)) (hin : ∀ t ∈ ts, t.2.1 < t.2.2 ∧ t.2.2 ≤ (bs a).length) (i : Nat) (hi : i < ts.length)
    (h1 : i < ((ts ++ [(0, a.size, a.size)]).map (tv a)).length) (h3 : i < (((ts ++ us.map (sh (a.size + 1))) ++ [(0, (a ++ (⟨#[10]⟩ : ByteArray) ++ b).size, (a ++ (⟨#[10]⟩ : ByteArray) ++ b).size)]).map (tv (a ++ (⟨#[10]⟩ : ByteArray) ++ b))).length) :
    (((ts ++ us.map (sh (a.size + 1))) ++ [(0, (a ++ (⟨#[10]⟩ : ByteArray) ++ b).size, (a ++ (⟨#[10]⟩ : ByteArray) ++ b).size)]).map (tv (a ++ (⟨#[10]⟩ : ByteArray) ++ b)))[i] = ((ts ++ [(0, a.size, a.size)]).map (tv a))[i] := by
  simp only [List.getElem_map]
  rw [List.getElem_append_left (by simp; omega), List.getElem_append_left hi, List.getElem_append_left hi]
  unfold tv
  have := (hin ts[i] (List.getElem_mem hi)).2
  rw [bs_length] at this
  rw [extract_left a b _ _ this]
theorem tv_bound (a : ByteArray) (ts : List (Int × Nat × Nat)) (hin : ∀ t ∈ ts, t.2.1 < t.2.2 ∧ t.2.2 ≤ (bs a).length) (h : a.size ≤ 200) : ∀ t ∈ (ts ++ [(0, a.size, a.size)]).map (tv a), 0 ≤ t.2.2.1 ∧ t.2.2.1 ≤ 200 ∧ 0 ≤ t.2.2.2 ∧ t.2.2.2 ≤ 200 := by
  intro t ht
  obtain ⟨u, hu, rfl⟩ := List.mem_map.1 ht
  unfold tv
  rcases List.mem_append.1 hu with h1 | h1
  · have := hin u h1
    rw [bs_length] at this
    simp only
    omega
  · simp at h1
    subst h1
    simp only
    omega
/-- A token, moved. -/
def shV (c : Nat) (t : TV) : TV := (t.1, t.2.1, t.2.2.1 + c, t.2.2.2 + c)
theorem tv_sh (a b : ByteArray) (t : Int × Nat × Nat) : tv (a ++ (⟨#[10]⟩ : ByteArray) ++ b) (sh (a.size + 1) t) = shV (a.size + 1) (tv b t) := by
  unfold tv sh shV
  rw [extract_right]
  simp only [Prod.mk.injEq, true_and]
  omega
theorem apart_right (a b : ByteArray) (ts us : List (Int × Nat × Nat)) (_hin : ∀ t ∈ us, t.2.1 < t.2.2 ∧ t.2.2 ≤ (bs b).length) (i : Nat)
    (h1 : i < ((us ++ [(0, b.size, b.size)]).map (tv b)).length) (h3 : ts.length + i < (((ts ++ us.map (sh (a.size + 1))) ++ [(0, (a ++ (⟨#[10]⟩ : ByteArray) ++ b).size, (a ++ (⟨#[10]⟩ : ByteArray) ++ b).size)]).map (tv (a ++ (⟨#[10]⟩ : ByteArray) ++ b))).length) :
    (((ts ++ us.map (sh (a.size + 1))) ++ [(0, (a ++ (⟨#[10]⟩ : ByteArray) ++ b).size, (a ++ (⟨#[10]⟩ : ByteArray) ++ b).size)]).map (tv (a ++ (⟨#[10]⟩ : ByteArray) ++ b)))[ts.length + i] = shV (a.size + 1) (((us ++ [(0, b.size, b.size)]).map (tv b))[i]) := by
  have e : (ts ++ us.map (sh (a.size + 1))) ++ [(0, (a ++ (⟨#[10]⟩ : ByteArray) ++ b).size, (a ++ (⟨#[10]⟩ : ByteArray) ++ b).size)] = ts ++ (us ++ [(0, b.size, b.size)]).map (sh (a.size + 1)) := by
    rw [feed_size]
    simp [sh]
  have key : ∀ (X Y : List (Int × Nat × Nat)) (hXY : X = Y) (g : Int × Nat × Nat → TV) (n : Nat) (hn : n < (X.map g).length) (hn' : n < (Y.map g).length), (X.map g)[n] = (Y.map g)[n] := by
    intro X Y hXY; subst hXY; intros; rfl
  rw [key _ _ e _ _ h3 (by simp; simp at h1; omega)]
  simp only [List.getElem_map]
  rw [List.getElem_append_right (by omega)]
  simp only [Nat.add_sub_cancel_left, List.getElem_map]
  exact tv_sh a b _
set_option maxHeartbeats 4000000 in
set_option maxRecDepth 100000 in
theorem lexApart_walk (a : ByteArray) (_ha : a.size ≤ maxLen) (b : ByteArray) (_hb : b.size ≤ maxLen) (w : World) :
    Calls Try.prog 11 #[.string a, .string b] w fun e w' => e = .returned (.bool true) ∧ Below w.heap.size w w' := by
  by_cases hbig : a.size ≤ 200 ∧ b.size ≤ 200
  · obtain ⟨h1, h2⟩ := hbig
    have hsz : (a ++ (⟨#[10]⟩ : ByteArray) ++ b).size ≤ 1000000 := by rw [feed_size]; omega
    have i1 : ¬ (200 : Int) < (a.size : Int) := by omega
    have i2 : ¬ (200 : Int) < (b.size : Int) := by omega
    go_enter Try.func11, Try.ntmps11
    go_wp2_with fail
    refine (words_any a _ (by omega)).mono ?_
    rintro e w1 ⟨hb1, p1⟩
    rcases hE : wordsE (bs a) with ⟨p, er⟩ | ts
    · rw [hE] at p1
      obtain rfl := p1
      have her := (wordsE_err _ _ _ hE).1
      have hne : (er != 0) = true := by simpa using her
      have hEb : wordsE (bs (a ++ (⟨#[10]⟩ : ByteArray) ++ b)) = .error (p, er) := by rw [bs_feed, wordsE_both, hE]
      have HEb := Lib.hid hEb
      have HE := Lib.hid hE
      clear her hE hEb
      have Hsz := Lib.hid hsz
      clear hsz
      go_wp2_with fail
      refine (words_loose b _ (by omega)).mono ?_
      rintro e w2 ⟨hb2, v2, at2, er2, rfl⟩
      go_wp2_with fail
      refine (words_any _ _ Hsz.out).mono ?_
      rintro e w3 ⟨hb3, p3⟩
      rw [HEb.out] at p3
      obtain rfl := p3
      go_wp2_with fail
      refine (words_any a _ (by omega)).mono ?_
      rintro e w4 ⟨hb4, p4⟩
      rw [HE.out] at p4
      obtain rfl := p4
      have hs1 := hb1.size
      have hs2 := hb2.size
      have hs3 := hb3.size
      have hs4 := hb4.size
      have hall := hb1.trans ((hb2.mono hs1).trans ((hb3.mono (by omega)).trans (hb4.mono (by omega))))
      go_wp2_with (go_at_call 28; refine (awake2 _).mono ?_; rintro e w' ⟨rfl, hb⟩)
      go_ret
      exact ⟨rfl, hall.trans (hb.mono (by omega))⟩
    · rw [hE] at p1
      obtain ⟨v1, rfl, ho1⟩ := p1
      have HE := Lib.hid hE
      clear hE
      go_wp2_with fail
      refine (words_any b _ (by omega)).mono ?_
      rintro e w2 ⟨hb2, p2⟩
      rcases hE2 : wordsE (bs b) with ⟨p, er⟩ | us
      · rw [hE2] at p2
        obtain rfl := p2
        have her := (wordsE_err _ _ _ hE2).1
        have hne : (er != 0) = true := by simpa using her
        have hpl := (wordsE_err _ _ _ hE2).2
        rw [bs_length] at hpl
        obtain ⟨q, hq⟩ : ∃ q, q = a.size + 1 + p := ⟨_, rfl⟩
        have hqb : ((q : Int) == (a.size : Int) + 1 + (p : Int)) = true := by simp; omega
        have hEb : wordsE (bs (a ++ (⟨#[10]⟩ : ByteArray) ++ b)) = .error (q, er) := by rw [bs_feed, wordsE_both, HE.out, hE2, bs_length, hq]
        clear hq
        have HEb := Lib.hid hEb
        have HE2 := Lib.hid hE2
        clear her hE2 hEb
        have Hsz := Lib.hid hsz
        clear hsz
        go_wp2_with fail
        refine (words_any _ _ Hsz.out).mono ?_
        rintro e w3 ⟨hb3, p3⟩
        rw [HEb.out] at p3
        obtain rfl := p3
        go_wp2_with fail
        refine (words_any b _ (by omega)).mono ?_
        rintro e w4 ⟨hb4, p4⟩
        rw [HE2.out] at p4
        obtain rfl := p4
        have hs1 := hb1.size
        have hs2 := hb2.size
        have hs3 := hb3.size
        have hs4 := hb4.size
        have hall := hb1.trans ((hb2.mono hs1).trans ((hb3.mono (by omega)).trans (hb4.mono (by omega))))
        go_wp2_with (go_at_call 28; refine (awake2 _).mono ?_; rintro e w' ⟨rfl, hb⟩)
        go_ret
        exact ⟨rfl, hall.trans (hb.mono (by omega))⟩
      · rw [hE2] at p2
        obtain ⟨v2, rfl, ho2⟩ := p2
        have hla := wordsE_length _ _ HE.out
        have hlb := wordsE_length _ _ hE2
        rw [bs_length] at hla hlb
        have hEb : wordsE (bs (a ++ (⟨#[10]⟩ : ByteArray) ++ b)) = .ok (ts ++ us.map (sh (a.size + 1))) := by rw [bs_feed, wordsE_both, HE.out, hE2, bs_length]
        have HE2 := Lib.hid hE2
        have HEb := Lib.hid hEb
        clear hEb hE2
        have Hsz := Lib.hid hsz
        clear hsz
        go_wp2_with fail
        refine (words_any _ _ Hsz.out).mono ?_
        rintro e w3 ⟨hb3, p3⟩
        rw [HEb.out] at p3
        obtain ⟨v3, rfl, ho3⟩ := p3
        have hs1 := hb1.size
        have hs2 := hb2.size
        have hs3 := hb3.size
        have hall := hb1.trans ((hb2.mono hs1).trans (hb3.mono (by omega)))
        have r1 : RdT w3 v1 ((ts ++ [(0, a.size, a.size)]).map (tv a)) := by
          have := ((Rd.of_own ho1).below hb2).below hb3
          rw [toks_tvs] at this
          unfold RdT
          rw [List.length_map, List.length_append]
          exact this
        have r2 : RdT w3 v2 ((us ++ [(0, b.size, b.size)]).map (tv b)) := by
          have := (Rd.of_own ho2).below hb3
          rw [toks_tvs] at this
          unfold RdT
          rw [List.length_map, List.length_append]
          exact this
        have r3 : RdT w3 v3 (((ts ++ us.map (sh (a.size + 1))) ++ [(0, (a ++ (⟨#[10]⟩ : ByteArray) ++ b).size, (a ++ (⟨#[10]⟩ : ByteArray) ++ b).size)]).map (tv (a ++ (⟨#[10]⟩ : ByteArray) ++ b))) := by
          have := Rd.of_own ho3
          rw [toks_tvs] at this
          unfold RdT
          rw [List.length_map, List.length_append]
          exact this
        have hX := apart_left a b ts us (wordsE_in _ _ HE.out)
        have hY := apart_right a b ts us (wordsE_in _ _ HE2.out)
        have l1 : ((ts ++ [(0, a.size, a.size)]).map (tv a)).length = ts.length + 1 := by simp
        have l2 : ((us ++ [(0, b.size, b.size)]).map (tv b)).length = us.length + 1 := by simp
        have l3 : (((ts ++ us.map (sh (a.size + 1))) ++ [(0, (a ++ (⟨#[10]⟩ : ByteArray) ++ b).size, (a ++ (⟨#[10]⟩ : ByteArray) ++ b).size)]).map (tv (a ++ (⟨#[10]⟩ : ByteArray) ++ b))).length = ts.length + us.length + 1 := by simp; omega
        have zA : ∀ t ∈ (ts ++ [(0, a.size, a.size)]).map (tv a), 0 ≤ t.2.2.1 ∧ t.2.2.1 ≤ 200 ∧ 0 ≤ t.2.2.2 ∧ t.2.2.2 ≤ 200 := tv_bound a ts (wordsE_in _ _ HE.out) h1
        have zB : ∀ t ∈ (us ++ [(0, b.size, b.size)]).map (tv b), 0 ≤ t.2.2.1 ∧ t.2.2.1 ≤ 200 ∧ 0 ≤ t.2.2.2 ∧ t.2.2.2 ≤ 200 := tv_bound b us (wordsE_in _ _ HE2.out) h2
        obtain ⟨b1, o1, c1, rfl, _, _, lt1, q1⟩ := r1.form (by omega)
        obtain ⟨b2, o2, c2, rfl, _, _, lt2, q2⟩ := r2.form (by omega)
        obtain ⟨b3, o3, c3, rfl, _, _, lt3, q3⟩ := r3.form (by omega)
        clear r1 r2 r3 ho1 ho2 ho3 HE HE2 HEb Hsz
        have htv : (ts ++ us.map (sh (a.size + 1))).length + 1 = ts.length + us.length + 1 := by simp
        generalize ((ts ++ us.map (sh (a.size + 1))) ++ [(0, (a ++ (⟨#[10]⟩ : ByteArray) ++ b).size, (a ++ (⟨#[10]⟩ : ByteArray) ++ b).size)]).map (tv (a ++ (⟨#[10]⟩ : ByteArray) ++ b)) = BB at *
        generalize (ts ++ [(0, a.size, a.size)]).map (tv a) = AA at *
        generalize (us ++ [(0, b.size, b.size)]).map (tv b) = CC at *
        obtain ⟨n1, hn1⟩ : ∃ n, n = ts.length := ⟨_, rfl⟩
        obtain ⟨n2, hn2⟩ : ∃ n, n = us.length := ⟨_, rfl⟩
        simp only [← hn1] at hX hY l1 l3 hla
        simp only [← hn2] at l2 l3 hlb
        rw [l1, l2, l3]
        have hq1 : Hid (∀ k, k < n1 → ∃ t0 t1 t2 t3, (0 ≤ t2 ∧ t2 ≤ 200 ∧ 0 ≤ t3 ∧ t3 ≤ 200) ∧ (w3.cell? ⟨b1, o1 + k * 4, none⟩ = some (.int .i64 t0) ∧ w3.cell? ⟨b1, o1 + k * 4 + 1, none⟩ = some (.string t1) ∧ w3.cell? ⟨b1, o1 + k * 4 + 2, none⟩ = some (.int .i64 t2) ∧ w3.cell? ⟨b1, o1 + k * 4 + 3, none⟩ = some (.int .i64 t3)) ∧
            (w3.cell? ⟨b3, o3 + k * 4, none⟩ = some (.int .i64 t0) ∧ w3.cell? ⟨b3, o3 + k * 4 + 1, none⟩ = some (.string t1) ∧ w3.cell? ⟨b3, o3 + k * 4 + 2, none⟩ = some (.int .i64 t2) ∧ w3.cell? ⟨b3, o3 + k * 4 + 3, none⟩ = some (.int .i64 t3))) := by
          intro k hk
          have e := hX k hk (by omega) (by omega)
          have f := q3 k (by omega)
          rw [e] at f
          exact ⟨_, _, _, _, zA _ (List.getElem_mem (by omega)), q1 k (by omega), f⟩
        have hq2 : Hid (∀ j, j < n2 + 1 → ∃ t0 t1 t2 t3, (0 ≤ t2 ∧ t2 ≤ 200 ∧ 0 ≤ t3 ∧ t3 ≤ 200) ∧ (w3.cell? ⟨b2, o2 + j * 4, none⟩ = some (.int .i64 t0) ∧ w3.cell? ⟨b2, o2 + j * 4 + 1, none⟩ = some (.string t1) ∧ w3.cell? ⟨b2, o2 + j * 4 + 2, none⟩ = some (.int .i64 t2) ∧ w3.cell? ⟨b2, o2 + j * 4 + 3, none⟩ = some (.int .i64 t3)) ∧
            (w3.cell? ⟨b3, o3 + (n1 + j) * 4, none⟩ = some (.int .i64 t0) ∧ w3.cell? ⟨b3, o3 + (n1 + j) * 4 + 1, none⟩ = some (.string t1) ∧ w3.cell? ⟨b3, o3 + (n1 + j) * 4 + 2, none⟩ = some (.int .i64 (t2 + ((a.size : Int) + 1))) ∧ w3.cell? ⟨b3, o3 + (n1 + j) * 4 + 3, none⟩ = some (.int .i64 (t3 + ((a.size : Int) + 1))))) := by
          intro j hj
          have e := hY j (by omega) (by omega)
          have f := q3 (n1 + j) (by omega)
          rw [e] at f
          exact ⟨_, _, _, _, zB _ (List.getElem_mem (by omega)), q2 j (by omega), f⟩
        clear q1 q2 q3 hX hY zA zB l1 l2 l3 htv hn1 hn2
        have u1 : ((n1 : Int) + 1 == 0) = false := by simp; omega
        have u2 : ((n1 : Int) + (n2 : Int) + 1 != (n1 : Int) + 1 + ((n2 : Int) + 1) - 1) = false := by simp; omega
        go_wp2_with fail
        clear u1 u2
        go_loopw [20] (fun t wr => ∃ k : Nat, k ≤ n1 + n2 + 1 ∧ t = .int .i64 k ∧ Below w3.heap.size w3 wr) (fun t _ => n1 + n2 + 1 - (intOf t).toNat)
        case atStart => exact ⟨0, Nat.zero_le _, rfl, Below.refl _ _⟩
        case round =>
          obtain ⟨k, hk, rfl, hbw⟩ := hrel
          by_cases hkl : k < n1
          · obtain ⟨t0, t1, t2, t3, ⟨hz1, hz2, hz3, hz4⟩, ⟨d0, d1, d2, d3⟩, ⟨f0, f1, f2, f3⟩⟩ := hq1.out k hkl
            rw [← hbw.cell (p := ⟨_, _, none⟩) lt1] at d0 d1 d2 d3
            rw [← hbw.cell (p := ⟨_, _, none⟩) lt3] at f0 f1 f2 f3
            have hsw := hbw.size
            have g1 : b1 < wr.heap.size := by omega
            have g3 : b3 < wr.heap.size := by omega
            go_wp2_with fail
            go_quiet (fail)
            go_wp2_with fail
            go_roundw
            case rel => exact ⟨k + 1, by omega, by go_num, below_drewN (hbw.alloc hsw _) _⟩
            case measure => simp [intOf]; omega
          · by_cases hke : k < n1 + n2 + 1
            · obtain ⟨j, rfl⟩ : ∃ j, k = n1 + j := ⟨k - n1, by omega⟩
              obtain ⟨t0, t1, t2, t3, ⟨hz1, hz2, hz3, hz4⟩, ⟨d0, d1, d2, d3⟩, ⟨f0, f1, f2, f3⟩⟩ := hq2.out j (by omega)
              rw [← hbw.cell (p := ⟨_, _, none⟩) lt2] at d0 d1 d2 d3
              rw [← hbw.cell (p := ⟨_, _, none⟩) lt3] at f0 f1 f2 f3
              have hsw := hbw.size
              have g2 : b2 < wr.heap.size := by omega
              have g3 : b3 < wr.heap.size := by omega
              have ej : ((n1 : Int) + (j : Int) - ((n1 : Int) + 1) + 1).toNat = j := by omega
              go_wp2_with fail
              go_quiet (fail)
              go_wp2_with fail
              go_roundw
              case rel => exact ⟨n1 + j + 1, by omega, by go_num, below_drewN (hbw.alloc hsw _) _⟩
              case measure => simp [intOf]; omega
            · go_wp2_with (go_at_call 28; refine (awake2 _).mono ?_; rintro e w' ⟨rfl, hb⟩)
              go_ret
              have := hbw.size
              exact ⟨rfl, hall.trans ((hbw.mono (by omega)).trans (hb.mono (by omega)))⟩
  · have hor : (200 : Int) < (a.size : Int) ∨ (¬ (200 : Int) < (a.size : Int) ∧ (200 : Int) < (b.size : Int)) := by omega
    clear hbig
    rcases hor with h | ⟨h, h'⟩
    all_goals
      go_enter Try.func11, Try.ntmps11
      go_wp2_with (go_at_call 28; refine (awake2 _).mono ?_; rintro e w' ⟨rfl, hb⟩)
      go_ret
      exact ⟨rfl, hb⟩
end Go.Proofs.Ytlifkfihpmkffaa
