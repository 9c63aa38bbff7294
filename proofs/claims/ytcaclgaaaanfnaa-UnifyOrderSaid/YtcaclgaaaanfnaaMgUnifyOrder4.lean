/- Texts of one proof, one behind the other. -/
import Derived.Test.YtcaclgaaaanfnaaMgUnifyOrder3
import Derived.Test.YtcaclgaaaanfnaaMgUnifyOrder1
import Derived.RangeFuncNested
import Derived.RangeFuncBound
import Derived.RangeFuncCalls
import Derived.RangeFuncLeaves
import Derived.OwnWalkIn
import Derived.Lib.Hide
import Derived.Test.YtcaclgaaaanfnaaMgUnifyOrder2
/- unify's laws: are equations too great? -/
namespace Go.Proofs.Ytcaclgaaaanfnaa
open Go.RowKit
set_option maxRecDepth 100000
/-- How great equations are. -/
def sz1 (x : Eqn) : Nat := (1 + x.1.2.2.2.size) + (1 + x.2.1.2.2.2.size)
def esz (l : List Eqn) : Nat := (l.map sz1).sum
def big1 (x : Eqn) : Prop := 1 + x.1.2.2.2.size ≤ 100 ∧ 1 + x.2.1.2.2.2.size ≤ 100
theorem esz_step (l : List Eqn) (j : Nat) (hj : j < l.length) : esz (l.take (j + 1)) = esz (l.take j) + sz1 l[j] := by
  unfold esz
  rw [List.take_add_one, List.getElem?_eq_getElem hj, List.map_append, List.sum_append]
  simp
theorem sz1_le (x : Eqn) (h : big1 x) : sz1 x ≤ 200 := by unfold big1 at h; unfold sz1; omega
theorem esz_le (l : List Eqn) (h : ∀ x ∈ l, big1 x) : esz l ≤ 200 * l.length := by
  induction l with
  | nil => simp [esz]
  | cons x l ih =>
    have h1 := sz1_le x (h x List.mem_cons_self)
    have h2 := ih fun y hy => h y (List.mem_cons_of_mem _ hy)
    simp only [esz, List.map_cons, List.sum_cons, List.length_cons] at h2 ⊢
    omega
/-- An equation's cells, and its types, in later worlds. -/
theorem EqV.here {w W : World} {l : List Eqn} {A : Option Addr} {c : Nat} (h : EqV w.heap.size w l (.slice A l.length c)) (hb : Below w.heap.size w W) (j : Nat) (hj : j < l.length) : ∃ b off, A = some ⟨b, off, none⟩ ∧ EqAt W b (off + j * 8) l[j] ∧ EqT W.heap.size W l[j] := by
  obtain ⟨b, off, hA, _, hat⟩ := (h.later hb).at j hj
  exact ⟨b, off, hA, hat, (h.later hb).ty j hj⟩
set_option maxHeartbeats 4000000 in
theorem great12_any (w : World) (l : List Eqn) (v : Value) (h : EqV w.heap.size w l v) (hm : l.length ≤ 9223372036854775807) :
    Calls Try.prog 9 #[v] w fun e w' => ∃ b, e = .returned (.bool b) ∧ (b = false → l.length ≤ 20 ∧ esz l ≤ 160) ∧ Below w.heap.size w w' := by
  obtain ⟨A, c, rfl⟩ := h.form
  have H := Lib.hid h
  clear h
  go_enter Try.func9, Try.ntmps9
  go_wp2_with fail
  go_loopw [3, 4] (fun s t wr => ∃ j : Nat, t = .int .i64 (j : Nat) ∧ j ≤ l.length ∧ j ≤ 30 ∧ s = .int .i64 (esz (l.take j) : Nat) ∧ (∀ x ∈ l.take j, big1 x) ∧ Below w.heap.size w wr) (fun _ t _ => l.length - (intOf t).toNat)
  case atStart => exact ⟨0, rfl, Nat.zero_le _, by omega, rfl, fun x hx => by simp at hx, Below.refl _ _⟩
  case round =>
    obtain ⟨j, rfl, hj, hj30, rfl, hbig, hb⟩ := hrel
    have hes := esz_le _ hbig
    obtain ⟨s, hs⟩ : ∃ s, esz (l.take j) = s := ⟨_, rfl⟩
    rw [hs] at hes ⊢
    have hs6 : s ≤ 6000 := by rw [List.length_take] at hes; omega
    have HB := Lib.hid (And.intro hb (And.intro hbig hs))
    clear hb hbig hs hes
    by_cases hjl : j < l.length
    · have f1 : decide ((j : Int) < (l.length : Int)) = true := decide_eq_true (by omega)
      by_cases hj3 : j < 30
      · have f2 : decide ((j : Int) < 30) = true := decide_eq_true (by omega)
        obtain ⟨b, off, rfl, hat, hty⟩ := H.out.here HB.out.1 j hjl
        obtain ⟨x, hx⟩ : ∃ x, l[j] = x := ⟨_, rfl⟩
        rw [hx] at hat hty
        obtain ⟨⟨k0, n0, ⟨u1, u2, u3⟩, F⟩, ⟨k1, n1, ⟨v1, v2, v3⟩, F'⟩, a0, a1⟩ := x
        obtain ⟨x0, x1, x2, x3, x4, x5, _, _⟩ := hat
        have hbg := big12 F k0 n0 _ wr hty.1
        obtain ⟨g1, hg1⟩ : ∃ z, (!(decide (1 + F.size ≤ 100) && decide (1 + F.depth ≤ 30))) = z := ⟨_, rfl⟩
        rw [hg1] at hbg
        have HBG := Lib.hid hbg
        have HX := Lib.hid (And.intro hx (And.intro hty hg1))
        dsimp only [slv, tyVal] at x0 x1 x2 x3 x4 x5 HBG
        have x4' : wr.cell? ⟨b, off + j * 8 + 3 + 1, none⟩ = some (.int .i64 n1) := x4
        have x5' : wr.cell? ⟨b, off + j * 8 + 3 + 2, none⟩ = some (.slice v1 v2 v3) := x5
        clear hx hty hg1 hbg
        go_wp2_with fail
        refine HBG.out.mono ?_
        rintro e w2 ⟨rfl, hb2⟩
        have hb2' : Below w.heap.size w w2 := HB.out.1.trans (hb2.mono HB.out.1.size)
        have HB2 := Lib.hid hb2'
        clear HBG
        cases g1 with
        | true =>
          clear hb2 hb2' x0 x1 x2 x3 x4 x5 x4' x5'
          go_wp2_with fail
          exact bodyPost_ret (results_tmp rfl _ _ _) rfl ⟨true, rfl, (fun e => by cases e), HB2.out⟩
        | false =>
          obtain ⟨_, _, e1, hat2, hty2⟩ := H.out.here hb2' j hjl
          cases e1
          rw [HX.out.1] at hat2 hty2
          obtain ⟨y0, y1, y2, y3, y4, y5, _, _⟩ := hat2
          have hbg := big12 F' k1 n1 _ w2 hty2.2
          obtain ⟨g2, hg2⟩ : ∃ z, (!(decide (1 + F'.size ≤ 100) && decide (1 + F'.depth ≤ 30))) = z := ⟨_, rfl⟩
          rw [hg2] at hbg
          have HBG := Lib.hid hbg
          have HX2 := Lib.hid (And.intro hty2 hg2)
          dsimp only [slv, tyVal] at y0 y1 y2 y3 y4 y5 HBG
          have y4' : w2.cell? ⟨b, off + j * 8 + 3 + 1, none⟩ = some (.int .i64 n1) := y4
          have y5' : w2.cell? ⟨b, off + j * 8 + 3 + 2, none⟩ = some (.slice v1 v2 v3) := y5
          clear hty2 hg2 hbg x0 x1 x2 x3 x4 x5 x4' x5' hb2 hb2'
          go_wp2_with fail
          refine HBG.out.mono ?_
          rintro e w3 ⟨rfl, hb3⟩
          have hb3' : Below w.heap.size w w3 := HB2.out.trans (hb3.mono HB2.out.size)
          have HB3 := Lib.hid hb3'
          clear HBG y0 y1 y2 y3 y4 y5 y4' y5' hb3
          cases g2 with
          | true =>
            clear hb3'
            go_wp2_with fail
            exact bodyPost_ret (results_tmp rfl _ _ _) rfl ⟨true, rfl, (fun e => by cases e), HB3.out⟩
          | false =>
            have hF : 1 + F.size ≤ 100 ∧ 1 + F'.size ≤ 100 := by
              have h1 := HX.out.2.2
              have h2 := HX2.out.2
              simp only [Bool.not_eq_false', Bool.and_eq_true, decide_eq_true_eq] at h1 h2
              exact ⟨h1.1, h2.1⟩
            obtain ⟨_, _, e1, hat3, hty3⟩ := H.out.here hb3' j hjl
            cases e1
            rw [HX.out.1] at hat3 hty3
            obtain ⟨z0, z1, z2, z3, z4, z5, _, _⟩ := hat3
            dsimp only [slv] at z0 z1 z2 z3 z4 z5
            obtain ⟨S0, hSof, hSto⟩ : ∃ S0 : World → Prop, (∀ W : World, Below w3.heap.size w3 W → S0 W) ∧ (∀ W, S0 W → (W.cell? ⟨b, off + j * 8, none⟩ = some (.int .i64 k0) ∧ W.cell? ⟨b, off + j * 8 + 1, none⟩ = some (.int .i64 n0) ∧ W.cell? ⟨b, off + j * 8 + 2, none⟩ = some (.slice u1 u2 u3)) ∧ W.cell? ⟨b, off + j * 8 + 3, none⟩ = some (.int .i64 k1) ∧ W.cell? ⟨b, off + j * 8 + 3 + 1, none⟩ = some (.int .i64 n1) ∧ W.cell? ⟨b, off + j * 8 + 3 + 2, none⟩ = some (.slice v1 v2 v3)) :=
              ⟨fun W => Below w3.heap.size w3 W, fun _ h => h, fun W hb =>
                have c : ∀ (o : Nat) (u : Value), w3.cell? ⟨b, o, none⟩ = some u → W.cell? ⟨b, o, none⟩ = some u := fun o u h => (hb.cell (World.block_lt_of_cell? _ _ h)).trans h
                ⟨⟨c _ _ z0, c _ _ z1, c _ _ z2⟩, c _ _ z3, c _ _ z4, c _ _ z5⟩⟩
            have hd3 : Below w3.heap.size w3 w3.drew := (Below.refl _ _).drew
            have hS : S0 w3.drew := hSof _ hd3
            have HS1 := rsize_any (F.size + 1) F k0 n0 (slv (u1, u2, u3)) w3.drew (by omega) (by omega) (hty3.1.onward hd3)
            have HTY := Lib.hid hty3
            have EX := Lib.hid hSto
            have HSOF := Lib.hid hSof
            have HSH := Lib.hid HS1
            obtain ⟨p, hp⟩ : ∃ z, F.size = z := ⟨_, rfl⟩
            obtain ⟨q, hq⟩ : ∃ z, F'.size = z := ⟨_, rfl⟩
            have HPQ := Lib.hid (And.intro hp hq)
            rw [hp] at HSH
            have hpq : p ≤ 99 ∧ q ≤ 99 := by omega
            dsimp only [tyVal, slv] at HSH
            clear hSof hSto HS1 z0 z1 z2 z3 z4 z5 hb3' hty3 hp hq hF
            have hd3' := Lib.hid hd3
            have hw1 : IntKind.i64.wrap ((s : Int) + (1 + (p : Int))) = (s : Int) + (1 + (p : Int)) := wrap_small _ (by omega) (by omega)
            have hw2 : IntKind.i64.wrap ((s : Int) + (1 + (p : Int)) + (1 + (q : Int))) = (s : Int) + (1 + (p : Int)) + (1 + (q : Int)) := wrap_small _ (by omega) (by omega)
            clear hd3
            go_wp2_with fail
            refine wp_region_held (S := S0) (by kernel_rfl) ?_
            change wpAnyH _ _ _ _ _ 16 (List.replicate 16 false).toArray _ w3.drew
            simp only [List.replicate_succ, List.replicate_zero]
            refine any_take (i := 0) (some 29) (.int .i64 (s : Nat)) rfl (by rfl) (by kernel_rfl) (by kernel_rfl) (by kernel_rfl) (fun _ _ _ h => h) (Or.inl ⟨by kernel_rfl, (fun W hw => by clear hw; go_simp)⟩) hS ?_
            simp only [Act.put, List.setIfInBounds_toArray, List.set_cons_zero, List.set_cons_succ]
            refine any_take (i := 1) (some 30) (.slice (some ⟨b, off, none⟩) l.length c) rfl (by rfl) (by kernel_rfl) (by kernel_rfl) (by kernel_rfl) (fun _ _ _ h => h) (Or.inl ⟨by kernel_rfl, (fun W hw => by clear hw; go_simp)⟩) hS ?_
            simp only [Act.put, List.setIfInBounds_toArray, List.set_cons_zero, List.set_cons_succ]
            refine any_take (i := 2) (some 31) (.int .i64 (j : Nat)) rfl (by rfl) (by kernel_rfl) (by kernel_rfl) (by kernel_rfl) (fun _ _ _ h => h) (Or.inl ⟨by kernel_rfl, (fun W hw => by clear hw; go_simp)⟩) hS ?_
            simp only [Act.put, List.setIfInBounds_toArray, List.set_cons_zero, List.set_cons_succ]
            refine any_take (i := 3) (some 32) (.pointer (some ⟨b, off + j * 8, none⟩)) rfl (by rfl) (by kernel_rfl) (by kernel_rfl) (by kernel_rfl) (fun _ _ _ h => h) (Or.inl ⟨by kernel_rfl, (fun W hw => by clear hw; go_simp)⟩) hS ?_
            simp only [Act.put, List.setIfInBounds_toArray, List.set_cons_zero, List.set_cons_succ]
            refine any_take (i := 4) (some 33) (.pointer (some ⟨b, off + j * 8, none⟩)) rfl (by rfl) (by kernel_rfl) (by kernel_rfl) (by kernel_rfl) (fun _ _ _ h => h) (Or.inl ⟨by kernel_rfl, (fun W hw => by clear hw; go_simp)⟩) hS ?_
            simp only [Act.put, List.setIfInBounds_toArray, List.set_cons_zero, List.set_cons_succ]
            refine any_take (i := 5) (some 34) (.agg #[.int .i64 k0, .int .i64 n0, .slice u1 u2 u3]) rfl (by rfl) (by kernel_rfl) (by kernel_rfl) (by kernel_rfl) (fun _ _ _ h => h) (Or.inl ⟨by kernel_rfl, (fun W hw => by obtain ⟨⟨n0_, n1_, n2_⟩, m0_, m1_, m2_⟩ := EX.out W hw; clear hw; go_simp)⟩) hS ?_
            simp only [Act.put, List.setIfInBounds_toArray, List.set_cons_zero, List.set_cons_succ]
            refine any_take (i := 8) (some 37) (.slice (some ⟨b, off, none⟩) l.length c) rfl (by rfl) (by kernel_rfl) (by kernel_rfl) (by kernel_rfl) (fun _ _ _ h => h) (Or.inl ⟨by kernel_rfl, (fun W hw => by clear hw; go_simp)⟩) hS ?_
            simp only [Act.put, List.setIfInBounds_toArray, List.set_cons_zero, List.set_cons_succ]
            refine any_take (i := 9) (some 38) (.int .i64 (j : Nat)) rfl (by rfl) (by kernel_rfl) (by kernel_rfl) (by kernel_rfl) (fun _ _ _ h => h) (Or.inl ⟨by kernel_rfl, (fun W hw => by clear hw; go_simp)⟩) hS ?_
            simp only [Act.put, List.setIfInBounds_toArray, List.set_cons_zero, List.set_cons_succ]
            refine any_take (i := 10) (some 39) (.pointer (some ⟨b, off + j * 8, none⟩)) rfl (by rfl) (by kernel_rfl) (by kernel_rfl) (by kernel_rfl) (fun _ _ _ h => h) (Or.inl ⟨by kernel_rfl, (fun W hw => by clear hw; go_simp)⟩) hS ?_
            simp only [Act.put, List.setIfInBounds_toArray, List.set_cons_zero, List.set_cons_succ]
            refine any_take (i := 11) (some 40) (.pointer (some ⟨b, off + j * 8 + 3, none⟩)) rfl (by rfl) (by kernel_rfl) (by kernel_rfl) (by kernel_rfl) (fun _ _ _ h => h) (Or.inl ⟨by kernel_rfl, (fun W hw => by clear hw; go_simp)⟩) hS ?_
            simp only [Act.put, List.setIfInBounds_toArray, List.set_cons_zero, List.set_cons_succ]
            refine any_take (i := 12) (some 41) (.agg #[.int .i64 k1, .int .i64 n1, .slice v1 v2 v3]) rfl (by rfl) (by kernel_rfl) (by kernel_rfl) (by kernel_rfl) (fun _ _ _ h => h) (Or.inl ⟨by kernel_rfl, (fun W hw => by obtain ⟨⟨n0_, n1_, n2_⟩, m0_, m1_, m2_⟩ := EX.out W hw; clear hw; go_simp)⟩) hS ?_
            simp only [Act.put, List.setIfInBounds_toArray, List.set_cons_zero, List.set_cons_succ]
            refine wpAnyH_all (rs := [6]) (by kernel_rfl) (by simp) fun q' hq' => ?_
            obtain rfl : q' = 6 := by simpa using hq'
            refine ops_call (d := some 35) rfl (by rfl) (by kernel_rfl) (by go_simp) (HSH.out.mono ?_)
            rintro e w4 ⟨rfl, hb4⟩
            have hb4 := hd3'.out.trans hb4
            have hS4 := HSOF.out w4 hb4
            have HS2 := rsize_any (F'.size + 1) F' k1 n1 (slv (v1, v2, v3)) w4 (by omega) (by have := HPQ.out; omega) (HTY.out.2.onward hb4)
            rw [HPQ.out.2] at HS2
            dsimp only [tyVal, slv] at HS2
            have HB4 := Lib.hid hb4
            have HSH2 := Lib.hid HS2
            clear HS2 hb4
            refine ⟨_, rfl, hS4, ?_⟩
            simp only [Act.put, List.setIfInBounds_toArray, List.set_cons_zero, List.set_cons_succ]
            refine any_take (i := 7) (some 36) (.int .i64 ((s : Int) + (1 + (p : Int)))) rfl (by rfl) (by kernel_rfl) (by kernel_rfl) (by kernel_rfl) (fun _ _ _ h => h) (Or.inl ⟨by kernel_rfl, (fun W hw => by clear hw; go_simp)⟩) hS4 ?_
            simp only [Act.put, List.setIfInBounds_toArray, List.set_cons_zero, List.set_cons_succ]
            refine wpAnyH_all (rs := [13]) (by kernel_rfl) (by simp) fun q' hq' => ?_
            obtain rfl : q' = 13 := by simpa using hq'
            refine ops_call (d := some 42) rfl (by rfl) (by kernel_rfl) (by go_simp) (HSH2.out.mono ?_)
            rintro e w5 ⟨rfl, hb5⟩
            have hb5 := HB4.out.trans (hb5.mono HB4.out.size)
            have hS5 := HSOF.out w5 hb5
            have HB5 := Lib.hid hb5
            clear hb5
            refine ⟨_, rfl, hS5, ?_⟩
            simp only [Act.put, List.setIfInBounds_toArray, List.set_cons_zero, List.set_cons_succ]
            refine any_take (i := 14) (some 43) (.int .i64 ((s : Int) + (1 + (p : Int)) + (1 + (q : Int)))) rfl (by rfl) (by kernel_rfl) (by kernel_rfl) (by kernel_rfl) (fun _ _ _ h => h) (Or.inl ⟨by kernel_rfl, (fun W hw => by clear hw; go_simp)⟩) hS5 ?_
            simp only [Act.put, List.setIfInBounds_toArray, List.set_cons_zero, List.set_cons_succ]
            refine any_take (i := 15) (some 3) (.int .i64 ((s : Int) + (1 + (p : Int)) + (1 + (q : Int)))) rfl (by rfl) (by kernel_rfl) (by kernel_rfl) (by kernel_rfl) (fun _ _ _ h => h) (Or.inl ⟨by kernel_rfl, (fun W hw => by clear hw; go_simp)⟩) hS5 ?_
            simp only [Act.put, List.setIfInBounds_toArray, List.set_cons_zero, List.set_cons_succ]
            refine wpAnyH_done (by kernel_rfl) ?_ _
            clear hS hS4 hS5 HSH HSH2 EX HSOF
            go_wp2_with fail
            have hst := esz_step l j hjl
            rw [HX.out.1] at hst
            have h3 := HB.out.2.2
            have hp := HPQ.out
            refine ⟨⟨j + 1, congrArg (Value.int .i64) (by omega), by omega, by omega, congrArg (Value.int .i64) ?_, fun x hx => ?_, HB3.out.trans (HB5.out.mono HB3.out.size)⟩, ?_⟩
            · rw [hst, h3]
              simp only [sz1]
              omega
            · rw [List.take_add_one, List.getElem?_eq_getElem hjl] at hx
              rcases List.mem_append.1 hx with hx | hx
              · exact HB.out.2.1 x hx
              · simp only [Option.toList_some, List.mem_singleton] at hx
                rw [hx, HX.out.1]
                exact ⟨by show 1 + F.size ≤ 100; omega, by show 1 + F'.size ≤ 100; omega⟩
            · show l.length - (intOf (.int .i64 ((j : Int) + 1))).toNat < l.length - (intOf (.int .i64 (j : Nat))).toNat
              simp only [intOf]
              omega
      · have f2 : decide ((j : Int) < 30) = false := decide_eq_false (by omega)
        by_cases g1 : 20 < l.length
        · have f3 : decide ((20 : Int) < (l.length : Int)) = true := decide_eq_true (by omega)
          go_wp2_with fail
          exact bodyPost_ret (results_tmp rfl _ _ _) rfl ⟨true, rfl, (fun e => by cases e), HB.out.1⟩
        · have f3 : decide ((20 : Int) < (l.length : Int)) = false := decide_eq_false (by omega)
          have hjj : j = l.length := by omega
          by_cases g2 : 160 < s
          · have f4 : decide ((160 : Int) < (s : Int)) = true := decide_eq_true (by omega)
            go_wp2_with fail
            exact bodyPost_ret (results_tmp rfl _ _ _) rfl ⟨true, rfl, (fun e => by cases e), HB.out.1⟩
          · have f4 : decide ((160 : Int) < (s : Int)) = false := decide_eq_false (by omega)
            go_wp2_with fail
            refine bodyPost_ret (results_tmp rfl _ _ _) rfl ⟨false, rfl, fun _ => ⟨by omega, ?_⟩, HB.out.1⟩
            have h3 := HB.out.2.2
            rw [hjj, List.take_length] at h3
            omega
    · have f1 : decide ((j : Int) < (l.length : Int)) = false := decide_eq_false (by omega)
      by_cases g1 : 20 < l.length
      · have f3 : decide ((20 : Int) < (l.length : Int)) = true := decide_eq_true (by omega)
        go_wp2_with fail
        exact bodyPost_ret (results_tmp rfl _ _ _) rfl ⟨true, rfl, (fun e => by cases e), HB.out.1⟩
      · have f3 : decide ((20 : Int) < (l.length : Int)) = false := decide_eq_false (by omega)
        have hjj : j = l.length := by omega
        by_cases g2 : 160 < s
        · have f4 : decide ((160 : Int) < (s : Int)) = true := decide_eq_true (by omega)
          go_wp2_with fail
          exact bodyPost_ret (results_tmp rfl _ _ _) rfl ⟨true, rfl, (fun e => by cases e), HB.out.1⟩
        · have f4 : decide ((160 : Int) < (s : Int)) = false := decide_eq_false (by omega)
          go_wp2_with fail
          refine bodyPost_ret (results_tmp rfl _ _ _) rfl ⟨false, rfl, fun _ => ⟨by omega, ?_⟩, HB.out.1⟩
          have h3 := HB.out.2.2
          rw [hjj, List.take_length] at h3
          omega
end Go.Proofs.Ytcaclgaaaanfnaa
/- A row of one's own stands behind what lays new blocks alone. -/
namespace Go.Proofs.Ytcaclgaaaanfnaa
open Go.RowKit
theorem own_below {w w' : World} {base : Nat} {e : TypeId} {size : Nat} {v : Value} {n : Nat} {xs : List Value} (h : w.ownsRow base e size v n xs) (hb : Below w.heap.size w w') : w'.ownsRow base e size v n xs := by
  refine ⟨h.1, ?_⟩
  rcases h.2 with h0 | ⟨g, cap, cur, h0, hbg, hg, hr⟩
  · exact .inl h0
  · exact .inr ⟨g, cap, cur, h0, hbg, (hb.block g (Array.getElem?_eq_some_iff.1 hg).1).trans hg, hr⟩
end Go.Proofs.Ytcaclgaaaanfnaa
/- A range over a function whose iterator keeps what it has left in cells of its own: what an invariant must abide, the iterator's contract, and the statement. Nothing here speaks of the program. -/
namespace Go.Proofs.Ytcaclgaaaanfnaa
open Go.RowKit
variable {n : Nat} {P : Program}

/-- A step of the iterator's: new blocks, and one block of cells of type t, from B on, turned. -/
def CStep (B : Nat) (t : TypeId) (W W' : World) : Prop := ∃ row, W.grownBy W' row ∧ ∀ r, row = some r → B ≤ r ∧ ∃ cs, W.heap[r]? = some (.cells cs t)
/-- What abides such steps. -/
def AbC {β : Type} (B : Nat) (t : TypeId) (J : β → World → Prop) : Prop := ∀ s W W', J s W → CStep B t W W' → J s W'
/-- The iterator's contract. -/
def SeqC {α : Type} (n : Nat) (P : Program) (g : Nat) (lb : Array Value) (t : TypeId) (encs : α → Array Value) (Kp : World → World → Prop) (S Sp : List α → Prop) (N : Nat) (w : World) : Prop :=
  ∀ (l : Nat) (J Jx : List α → World → Prop) (W : World), Below w.heap.size w W → AbC W.heap.size t J → AbC W.heap.size t Jx →
    (∀ pre x W1, J pre W1 → pre.length < N → YieldAt Fence.wide (n - 1) P l (encs x) W1 fun e W' =>
      (e = .returned (.bool true) ∧ J (pre ++ [x]) W' ∧ Kp W1 W') ∨ (e = .returned (.bool false) ∧ Jx (pre ++ [x]) W')) → J [] W →
    CallsIn Fence.wide n P g (#[.func (.yield l) #[] #[]] ++ lb) W fun e W' => (∃ v, e = .returned v) ∧ ((∃ xs, S xs ∧ J xs W') ∨ (∃ pre, Sp pre ∧ Jx pre W'))
/-- A block that is no such cells lies as it lay. -/
theorem CStep.same {B : Nat} {t : TypeId} {W W' : World} (h : CStep B t W W') {k : Nat} {o : Obj} (hk : W.heap[k]? = some o) (ho : o.isCells = false) : W'.heap[k]? = some o := by
  obtain ⟨row, hg, hr⟩ := h
  refine (hg.block k (Array.getElem?_eq_some_iff.1 hk).1 fun e => ?_).trans hk
  obtain ⟨_, cs, hc⟩ := hr k e.symm
  rw [hk] at hc
  cases hc
  cases ho
theorem CStep.below {B C : Nat} {t : TypeId} {W W' : World} (h : CStep B t W W') (hC : C ≤ B) (hW : C ≤ W.heap.size) : Below C W W' := by
  obtain ⟨row, hg, hr⟩ := h
  exact ⟨hg.os, hg.tape, hg.output, hg.size, fun k hk => hg.block k (by omega) fun e => by have := (hr k e.symm).1; omega⟩
theorem CStep.mono {B C : Nat} {t : TypeId} {W W' : World} (h : CStep B t W W') (hC : C ≤ B) : CStep C t W W' := by
  obtain ⟨row, hg, hr⟩ := h
  exact ⟨row, hg, fun r e => ⟨Nat.le_trans hC (hr r e).1, (hr r e).2⟩⟩
theorem CStep.box {B : Nat} {t u : TypeId} {W W' : World} (h : CStep B t W W') (hne : u ≠ t) {b : Nat} {v : Value} (hb : Boxed W b u v) : Boxed W' b u v := by
  obtain ⟨row, hg, hr⟩ := h
  refine hb.kept hg fun e => ?_
  obtain ⟨_, cs, hc⟩ := hr b e.symm
  rw [show W.heap[b]? = _ from hb] at hc
  cases hc
  exact hne rfl
/-- What speaks of no world abides. -/
theorem AbC.pure {β : Type} {B : Nat} {t : TypeId} {p : β → Prop} : AbC B t (fun s (_ : World) => p s) := fun _ _ _ h _ => h
theorem AbC.and {β : Type} {B : Nat} {t : TypeId} {I J : β → World → Prop} (h : AbC B t I) (k : AbC B t J) : AbC B t (fun s W => I s W ∧ J s W) := fun s W W' hs hc => ⟨h s W W' hs.1 hc, k s W W' hs.2 hc⟩
/-- The two blocks that the statement lays: what it knows of them. -/
def Laid (w : World) (r : Loop) (W : World) : Prop := W.heap[w.heap.size + 1]? = some (.loop r) ∧ W.heap[w.heap.size]? = some (.deferred (some []))
theorem Laid.step {w : World} {r : Loop} {B : Nat} {t : TypeId} {W W' : World} (h : Laid w r W) (hc : CStep B t W W') : Laid w r W' := ⟨hc.same h.1 rfl, hc.same h.2 rfl⟩
theorem Laid.from {w : World} {r : Loop} {W W' : World} (h : Laid w r W) (hk : KeepsFrom w.heap.size W W') : Laid w r W' := ⟨hk.same _ _ (by omega) h.1 rfl, hk.same _ _ (Nat.le_refl _) h.2 rfl⟩
theorem Laid.put {w : World} {r : Loop} {W : World} (h : Laid w r W) (r' : Loop) : Laid w r' (W.putObj (w.heap.size + 1) (.loop r')) :=
  ⟨World.putObj_heap_same (Array.getElem?_eq_some_iff.1 h.1).1, (World.putObj_heap_other (by omega)).trans h.2⟩
theorem Laid.new (w : World) (r : Loop) : Laid w r ((w.alloc (.deferred (some []))).alloc (.loop r)) := by
  refine ⟨?_, (Below.heap_alloc _ _ _ (by simp)).trans (World.alloc_heap_new w _)⟩
  have := World.alloc_heap_new (w.alloc (.deferred (some []))) (.loop r)
  rwa [World.size_alloc] at this
/-- The statement. -/
theorem wpIn_rangeC {α : Type} {g : Operand} {ps : Array Tmp} {assign body : Code} {Q : Exit → Act → World → Prop} {a : Act} {w : World}
    (h1 : 1 ≤ n) {gf : Nat} {lb : Array Value} (hg : a.eval g = .func (.func gf) #[] lb) (eg : ∀ args w, (callFunc gf args).run P w = .ok (.enter gf args) w)
    {t : TypeId} {encs : α → Array Value} {Kp : World → World → Prop} {S Sp : List α → Prop} {N : Nat} {w0 : World} (hseq : SeqC (n - 1) P gf lb t encs Kp S Sp N w0) (hb0 : Below w0.heap.size w0 w)
    (hKt : ∀ {A B C : World}, Kp A B → Kp B C → Kp A C) (hKb : ∀ (W : World) (l : Nat) (o o' : Obj), w.heap.size ≤ l → W.heap[l]? = some o → o.isCells = false → o.isWalk = false → Kp W (W.putObj l o')) (hps : ∀ x, (encs x).size = ps.size)
    (I : List α → World → Prop) (Ix : Code → List α → World → Prop) (hI : OwnFrom w.heap.size I) (hIx : ∀ c, OwnFrom w.heap.size (Ix c)) (hIc : AbC w.heap.size t I) (hIxc : ∀ c, AbC w.heap.size t (Ix c)) (h0 : I [] w)
    (Ax : α → Act → World → Prop) (hAx : ∀ x a', OwnFrom w.heap.size (fun (_ : Unit) W => Ax x a' W))
    (hassign : ∀ (l : Nat) (pre : List α) (x : α) (W : World) (K : Act → World → Prop), I pre W → (∀ a' W', KeepsFrom w.heap.size W W' → Kp W W' → I pre W' → Ax x a' W' → K a' W') →
      assign.wpIn (Fence.wide.inRound l) (n - 1 - 1) P (Exit.then K (fun _ _ _ => False)) { tmps := (ps.zip (encs x)).foldl (fun t (p, v) => t.setIfInBounds p v) a.tmps, defers := [] } W)
    (hbody : ∀ (l : Nat) (pre : List α) (x : α) (a' : Act) (W : World), w.heap.size ≤ l → I pre W → Ax x a' W → pre.length < N → body.wpIn (Fence.wide.inRound l) (n - 1 - 1) P (ownPostG w.heap.size Kp I Ix (pre ++ [x]) W) a' W)
    (hdone : ∀ (D : Nat) (xs : List α) (W : World), w.heap.size ≤ D → S xs → I xs W → W.heap[D]? = some (.deferred (some [])) → Q .normal { a with defers := { target := .collected D, args := #[] } :: a.defers } W)
    (hstop : ∀ (D : Nat) (c : Code) (pre : List α) (W : World), w.heap.size ≤ D → Sp pre → Ix c pre W → W.heap[D]? = some (.deferred (some [])) → c.wpIn Fence.wide n P Q { a with defers := { target := .collected D, args := #[] } :: a.defers } W) :
    (Code.rangeFunc g ps assign body).wpIn Fence.wide n P Q a w := by
  refine wpIn_rangeFunc fun fn hfn => ?_
  obtain ⟨R, hR⟩ : ∃ R : LoopState → Option Code → Loop, R = fun st pe => { state := st, pending := pe, fn, tmps := a.tmps, params := ps, assign, body, defers := w.heap.size } := ⟨_, rfl⟩
  obtain ⟨W1, hW1⟩ : ∃ W1, (w.alloc (.deferred (some []))).alloc (.loop (R .ready none)) = W1 := ⟨_, rfl⟩
  have hL1 : Laid w (R .ready none) W1 := by rw [← hW1]; exact Laid.new w _
  have hI1 : I [] W1 := by rw [← hW1]; exact hI.alloc _ (hI.alloc _ h0)
  have hs1 : W1.heap.size = w.heap.size + 2 := by rw [← hW1]; simp
  have hb1 : Below w0.heap.size w0 W1 := by
    rw [← hW1]; exact hb0.trans ((((Below.refl _ w).alloc (Nat.le_refl _) _).alloc (by simp) _).mono hb0.size)
  -- the caller's word, put where a round's record stands
  have put : ∀ {r : Loop} (r' : Loop) {W : World}, Laid w r W → Kp W (W.putObj (w.heap.size + 1) (.loop r')) := fun r' W h => hKb _ _ _ _ (by omega) h.1 rfl rfl
  have wide : ∀ {W W' : World}, CStep W1.heap.size t W W' → CStep w.heap.size t W W' := fun h => h.mono (by omega)
  refine ⟨w.heap.size + 1, [{ target := .collected w.heap.size, args := #[] }], W1, { target := .fn (.func gf) lb, args := #[.func (.yield (w.heap.size + 1)) #[] #[]] }, W1, gf, #[.func (.yield (w.heap.size + 1)) #[] #[]] ++ lb, W1, ?_, ?_, ?_, ?_, fun _ => h1, ?_⟩
  · rw [← hW1, hR]; exact run_enterLoop_outer _ _ _ _ _
  · simp only [resolve, hg]; simp [go_sem]
  · exact fun _ _ => trivial
  · simp [invoke, go_sem, eg]
  refine (hseq (w.heap.size + 1) (fun pre W => I pre W ∧ Laid w (R .ready none) W) (fun pre W => ∃ c, Ix c pre W ∧ Laid w (R .done (some c)) W) W1 hb1
    (fun s X Y hs hc => ⟨hIc s X Y hs.1 (wide hc), hs.2.step hc⟩) (fun s X Y ⟨c, hs, hl⟩ hc => ⟨c, hIxc c s X Y hs (wide hc), hl.step hc⟩) ?_ ⟨hI1, hL1⟩).mono ?_
  · rintro pre x W ⟨hi, hl⟩ hlen
    have hy := run_yield (P := P) (args := encs x) hl.1 (by rw [hR]; exact hps x)
    rw [hR] at hy
    refine ⟨fn, _, assign, body, hy, roundIn_of_wpIn hfn (hassign _ pre x W _ hi ?_)⟩
    clear hy
    intro a' X hkX hpX hiX hax
    have hlX := hl.from hkX
    refine ⟨_, run_beginRound hlX.1 (by rw [hR]), ?_⟩
    have hlB := hlX.put { R .ready none with state := .busy }
    have hiB := hI.putObj (.loop { R .ready none with state := .busy }) hiX (by omega) hlX.1 rfl
    have haB := (hAx x a').putObj (s := ()) (.loop { R .ready none with state := .busy }) hax (by omega) hlX.1 rfl
    have hpB := hKt hpX (put { R .ready none with state := .busy } hlX)
    refine wpIn_mono (hbody _ pre x a' _ (by omega) hiB haB hlen) ?_
    have stop : ∀ (c : Code) (W3 : World), KeepsFrom w.heap.size (X.putObj (w.heap.size + 1) (.loop { R .ready none with state := .busy })) W3 → Ix c (pre ++ [x]) W3 →
        ∃ v w', (Instr.endRound (w.heap.size + 1) (some c)).run P W3 = .ok v w' ∧ (((.returned v : Ending) = .returned (.bool true) ∧ (I (pre ++ [x]) w' ∧ Laid w (R .ready none) w') ∧ Kp W w') ∨ ((.returned v : Ending) = .returned (.bool false) ∧ ∃ c, Ix c (pre ++ [x]) w' ∧ Laid w (R .done (some c)) w')) := by
      intro c W3 hk3 hi3
      have hl3 := hlB.from hk3
      have he := run_endRound (P := P) (some c) hl3.1
      refine ⟨_, _, he, .inr ⟨rfl, c, (hIx c).putObj _ hi3 (by omega) hl3.1 rfl, ?_⟩⟩
      have := hl3.put (R .done (some c))
      rw [hR] at this ⊢
      exact this
    rintro e a3 W3 hp
    cases e with
    | normal =>
      obtain ⟨hk3, hp3, hi3⟩ := hp
      have hl3 := hlB.from hk3
      have he := run_endRound (P := P) none hl3.1
      refine ⟨_, _, he, .inl ⟨rfl, ⟨hI.putObj _ hi3 (by omega) hl3.1 rfl, ?_⟩, hKt (hKt hpB hp3) (put _ hl3)⟩⟩
      have := hl3.put (R .ready none)
      rw [hR] at this ⊢
      exact this
    | ret => exact stop .ret W3 hp.1 hp.2
    | exit id => exact stop (.exit id) W3 hp.1 hp.2
    | goto t => exact stop (.goto t) W3 hp.1 hp.2
    | panic ch => exact hp.elim
    | outgrown => exact hp.elim
  · rintro e W2 ⟨⟨v, rfl⟩, (⟨xs, hS, hi, hl⟩ | ⟨pre, hSp, c, hi, hl⟩)⟩
    · have he := run_endLoop (P := P) hl.1 (by rw [hR]; simp)
      rw [hR] at he
      exact ⟨none, _, he, hdone _ xs _ (Nat.le_refl _) hS (hI.putObj _ hi (by omega) hl.1 rfl) ((World.putObj_heap_other (by omega)).trans hl.2)⟩
    · have he := run_endLoop (P := P) hl.1 (by rw [hR]; simp)
      rw [hR] at he
      exact ⟨some c, _, he, hstop _ c pre _ (Nat.le_refl _) hSp ((hIx c).putObj _ hi (by omega) hl.1 rfl) ((World.putObj_heap_other (by omega)).trans hl.2)⟩
end Go.Proofs.Ytcaclgaaaanfnaa
/- types.all: types and all that they are made of, each ahead of its parts: the plain facts, and what lies in memory. -/
namespace Go.Proofs.Ytcaclgaaaanfnaa
open Go.RowKit Go.Shelf
attribute [local go_sem] Oper.semAt_some

namespace Fo
/-- The types of a list themselves. -/
def top : Fo → List Tr
  | nil => []
  | cons k n u _ r => (k, n, u) :: r.top
/-- All of them, each ahead of its parts. -/
def pre : Fo → List Tr
  | nil => []
  | cons k n u ps r => (k, n, u) :: (ps.pre ++ r.pre)
theorem top_len (f : Fo) : f.top.length = f.len := by
  induction f with
  | nil => rfl
  | cons k n u ps r _ ih => simp [top, len, ih]
theorem pre_len (f : Fo) : f.pre.length = f.size := by
  induction f with
  | nil => rfl
  | cons k n u ps r ih1 ih2 => simp [pre, size, ih1, ih2]; omega
theorem top_app (f g : Fo) : (f.app g).top = f.top ++ g.top := by
  induction f with
  | nil => rfl
  | cons k n u ps r _ ih => simp [top, app, ih]
theorem pre_app (f g : Fo) : (f.app g).pre = f.pre ++ g.pre := by
  induction f with
  | nil => rfl
  | cons k n u ps r _ ih => simp [pre, app, ih]
/-- What is left when the first one gave way to its parts. -/
theorem pre_next (k n : Int) (u : Sl) (ps r : Fo) : (cons k n u ps r).pre = (k, n, u) :: (ps.app r).pre := by simp [pre, pre_app]
end Fo
/-- Each type's parts lie at its slice. -/
def TyL (B : Nat) (w : World) : Fo → Prop
  | .nil => True
  | .cons _ _ u ps r => TyV B w ps (slv u) ∧ TyL B w r
theorem TyL.app {B : Nat} {w : World} {f g : Fo} (h : TyL B w f) (k : TyL B w g) : TyL B w (f.app g) := by
  induction f with
  | nil => exact k
  | cons _ _ _ _ r _ ih => exact ⟨h.1, ih h.2⟩
theorem TyL.below {B : Nat} {w w' : World} {f : Fo} (h : TyL B w f) (hb : Below B w w') : TyL B w' f := by
  induction f with
  | nil => trivial
  | cons _ _ _ _ r _ ih => exact ⟨h.1.below hb, ih h.2⟩
theorem TyC.list {B : Nat} {w : World} {f : Fo} {b off : Nat} (h : TyC B w f b off) : TyL B w f := by
  induction f generalizing off with
  | nil => trivial
  | cons _ _ _ _ r _ ih => obtain ⟨_, _, _, h4, h5⟩ := tyC_cons.1 h; exact ⟨h4, ih h5⟩
theorem TyV.list {B : Nat} {w : World} {f : Fo} {v : Value} (h : TyV B w f v) : TyL B w f := by
  cases f with
  | nil => trivial
  | cons k n u ps r => obtain ⟨b, off, cap, _, _, _, _, hc⟩ := tyV_cons.1 h; exact TyC.list hc
theorem tyC_rd {B : Nat} {w : World} {f : Fo} {b off : Nat} (h : TyC B w f b off) : ∀ i (hi : i < f.top.length), w.cell? ⟨b, off + i * 3, none⟩ = some (.int .i64 f.top[i].1) ∧ w.cell? ⟨b, off + i * 3 + 1, none⟩ = some (.int .i64 f.top[i].2.1) ∧ w.cell? ⟨b, off + i * 3 + 2, none⟩ = some (slv f.top[i].2.2) := by
  induction f generalizing off with
  | nil => intro i hi; simp [Fo.top] at hi
  | cons k n u ps r _ ih =>
    obtain ⟨h1, h2, h3, _, h5⟩ := tyC_cons.1 h
    intro i hi
    cases i with
    | zero => simpa [Fo.top] using ⟨h1, h2, h3⟩
    | succ i =>
      have := ih h5 i (by simpa [Fo.top] using hi)
      rw [show off + (i + 1) * 3 = off + 3 + i * 3 by omega]
      simpa [Fo.top] using this
theorem TyV.rd {B : Nat} {w : World} {f : Fo} {v : Value} (h : TyV B w f v) : RdX B w v f.top := by
  cases f with
  | nil =>
    obtain ⟨A, c, rfl⟩ := tyV_nil.1 h
    exact ⟨A, c, rfl, fun h => by simp [Fo.top] at h⟩
  | cons k n u ps r =>
    obtain ⟨b, off, cap, rfl, _, _, hb, hc⟩ := tyV_cons.1 h
    exact ⟨_, cap, by rw [Fo.top_len]; rfl, fun _ => ⟨b, off, rfl, hb, tyC_rd hc⟩⟩
/-- The stack: the first type lies last. -/
def stk (R : Fo) : List Value := R.top.reverse.flatMap trC
theorem stk_cons (k n : Int) (u : Sl) (ps r : Fo) : stk (.cons k n u ps r) = stk r ++ trC (k, n, u) := by simp [stk, Fo.top]
theorem stk_app (f r : Fo) : stk (f.app r) = stk r ++ f.top.reverse.flatMap trC := by simp [stk, Fo.top_app]
theorem trC_len (L : List Tr) : (L.flatMap trC).length = L.length * 3 := by
  induction L with
  | nil => rfl
  | cons x L ih => simp [trC, ih]; omega
theorem stk_len (R : Fo) : (stk R).length = R.len * 3 := by rw [stk, trC_len]; simp [Fo.top_len]
/-- A row of the call's own, cut. -/
theorem own_cut {w : World} {base : Nat} {e : TypeId} {size : Nat} {A : Option Addr} {n c : Nat} {xs ys : List Value} (h : w.ownsRow base e size (.slice A n c) n (xs ++ ys)) (k : Nat) (hk : k ≤ n) (hx : xs.length = k * size) : w.ownsRow base e size (.slice A k c) k xs := by
  refine ⟨hx, ?_⟩
  rcases h.2 with ⟨h0, h1⟩ | ⟨g, cap, cur, h0, hb, hg, hnc, hcm, hcs, htake⟩
  · injection h0 with h2 h3 h4
    subst h2; subst h4
    obtain rfl : k = 0 := by omega
    exact .inl ⟨rfl, rfl⟩
  · injection h0 with h2 h3 h4
    subst h2; subst h4
    refine .inr ⟨g, c, cur, rfl, hb, hg, by omega, hcm, hcs, ?_⟩
    have : (cur.toList.take (n * size)).take (k * size) = (xs ++ ys).take (k * size) := by rw [htake]
    rw [List.take_take, Nat.min_eq_left (Nat.mul_le_mul_right _ hk)] at this
    rw [this, ← hx, List.take_left]
/-- What a round keeps: whatever lay below B, and every block of types. -/
structure KpC (B : Nat) (W W' : World) : Prop where
  below : Below B W W'
  kept : ∀ (k : Nat) (cs : Array Value), W.heap[k]? = some (Obj.cells cs 36) → W'.heap[k]? = some (Obj.cells cs 36)
theorem KpC.t {B : Nat} {X Y Z : World} (h : KpC B X Y) (k : KpC B Y Z) : KpC B X Z := ⟨h.below.trans k.below, fun i cs hi => k.kept i cs (h.kept i cs hi)⟩
theorem KpC.b {B : Nat} {w : World} (hn : B ≤ w.heap.size) (W : World) (l : Nat) (o o' : Obj) (hl : w.heap.size ≤ l) (h : W.heap[l]? = some o) (h1 : o.isCells = false) (h2 : o.isWalk = false) : KpC B W (W.putObj l o') := by
  refine ⟨belowK_b hn W l o o' hl h h1 h2, fun k cs hk => ?_⟩
  refine ((grownBy_putObj' W l o').block k (Array.getElem?_eq_some_iff.1 hk).1 fun e => ?_).trans hk
  cases e
  rw [h] at hk
  cases hk
  cases h1
theorem KpC.of_below {B : Nat} {W W' : World} (h : Below W.heap.size W W') (hB : B ≤ W.heap.size) : KpC B W W' :=
  ⟨h.mono hB, fun k _ hk => (h.block k (Array.getElem?_eq_some_iff.1 hk).1).trans hk⟩
theorem KpC.own {B base : Nat} {W W' : World} {v : Value} {n : Nat} {xs : List Value} (h : KpC B W W') (ho : W.ownsRow base 36 3 v n xs) : W'.ownsRow base 36 3 v n xs := by
  refine ⟨ho.1, ?_⟩
  rcases ho.2 with h0 | ⟨g, cap, cur, h0, hb, hg, hr⟩
  · exact .inl h0
  · exact .inr ⟨g, cap, cur, h0, hb, h.kept _ _ hg, hr⟩
end Go.Proofs.Ytcaclgaaaanfnaa
