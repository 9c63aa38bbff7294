/- Texts of one proof, one behind the other. -/
import Derived.Test.YtbnpmeaaaecciaaMgUnifyParts19
import Derived.Test.YtbnpmeaaaecciaaMgUnifyParts1
import Derived.Test.YtbnpmeaaaecciaaMgUnifyParts5
import Derived.Test.YtbnpmeaaaecciaaMgUnifyParts14
import Derived.Test.YtbnpmeaaaecciaaMgUnifyParts11
import Derived.Test.YtbnpmeaaaecciaaMgUnifyParts3
import Derived.Test.YtbnpmeaaaecciaaMgUnifyParts4
import Derived.Test.YtbnpmeaaaecciaaMgUnifyParts18
/- unify's laws: are equations too great? -/
namespace Go.Proofs.Ytbnpmeaaaecciaa
open Go.RowKit
set_option maxRecDepth 100000
/-- How great equations are. -/
def sz1 (x : Eqn) : Nat := (1 + x.1.2.2.2.size) + (1 + x.2.1.2.2.2.size)
def esz (l : List Eqn) : Nat := (l.map sz1).sum
def big1 (x : Eqn) : Prop := 1 + x.1.2.2.2.size ≤ 100 ∧ 1 + x.2.1.2.2.2.size ≤ 100
theorem esz_step (l : List Eqn) (j : Nat) (hj : j < l.length) : esz (l.take (j + 1)) = esz (l.take j) + sz1 l[j] := by
  unfold esz
  rw [List.take_add_one, List.getElem?_eq_getElem hj, List.map_append, List.sum_append]
  simp
theorem sz1_le (x : Eqn) (h : big1 x) : sz1 x ≤ 200 := by unfold big1 at h; unfold sz1; omega
theorem esz_le (l : List Eqn) (h : ∀ x ∈ l, big1 x) : esz l ≤ 200 * l.length := by
  induction l with
  | nil => simp [esz]
  | cons x l ih =>
    have h1 := sz1_le x (h x List.mem_cons_self)
    have h2 := ih fun y hy => h y (List.mem_cons_of_mem _ hy)
    simp only [esz, List.map_cons, List.sum_cons, List.length_cons] at h2 ⊢
    omega
/-- An equation's cells, and its types, in later worlds. -/
theorem EqV.here {w W : World} {l : List Eqn} {A : Option Addr} {c : Nat} (h : EqV w.heap.size w l (.slice A l.length c)) (hb : Below w.heap.size w W) (j : Nat) (hj : j < l.length) : ∃ b off, A = some ⟨b, off, none⟩ ∧ EqAt W b (off + j * 8) l[j] ∧ EqT W.heap.size W l[j] := by
  obtain ⟨b, off, hA, _, hat⟩ := (h.later hb).at j hj
  exact ⟨b, off, hA, hat, (h.later hb).ty j hj⟩
set_option maxHeartbeats 4000000 in
theorem great12_any (w : World) (l : List Eqn) (v : Value) (h : EqV w.heap.size w l v) (hm : l.length ≤ 9223372036854775807) :
    Calls Try.prog 6 #[v] w fun e w' => ∃ b, e = .returned (.bool b) ∧ (b = false → l.length ≤ 20 ∧ esz l ≤ 160) ∧ Below w.heap.size w w' := by
  obtain ⟨A, c, rfl⟩ := h.form
  have H := Lib.hid h
  clear h
  go_enter Try.func6, Try.ntmps6
  go_wp2_with fail
  go_loopw [3, 4] (fun s t wr => ∃ j : Nat, t = .int .i64 (j : Nat) ∧ j ≤ l.length ∧ j ≤ 30 ∧ s = .int .i64 (esz (l.take j) : Nat) ∧ (∀ x ∈ l.take j, big1 x) ∧ Below w.heap.size w wr) (fun _ t _ => l.length - (intOf t).toNat)
  case atStart => exact ⟨0, rfl, Nat.zero_le _, by omega, rfl, fun x hx => by simp at hx, Below.refl _ _⟩
  case round =>
    obtain ⟨j, rfl, hj, hj30, rfl, hbig, hb⟩ := hrel
    have hes := esz_le _ hbig
    obtain ⟨s, hs⟩ : ∃ s, esz (l.take j) = s := ⟨_, rfl⟩
    rw [hs] at hes ⊢
    have hs6 : s ≤ 6000 := by rw [List.length_take] at hes; omega
    have HB := Lib.hid (And.intro hb (And.intro hbig hs))
    clear hb hbig hs hes
    by_cases hjl : j < l.length
    · have f1 : decide ((j : Int) < (l.length : Int)) = true := decide_eq_true (by omega)
      by_cases hj3 : j < 30
      · have f2 : decide ((j : Int) < 30) = true := decide_eq_true (by omega)
        obtain ⟨b, off, rfl, hat, hty⟩ := H.out.here HB.out.1 j hjl
        obtain ⟨x, hx⟩ : ∃ x, l[j] = x := ⟨_, rfl⟩
        rw [hx] at hat hty
        obtain ⟨⟨k0, n0, ⟨u1, u2, u3⟩, F⟩, ⟨k1, n1, ⟨v1, v2, v3⟩, F'⟩, a0, a1⟩ := x
        obtain ⟨x0, x1, x2, x3, x4, x5, _, _⟩ := hat
        have hbg := big12 F k0 n0 _ wr hty.1
        obtain ⟨g1, hg1⟩ : ∃ z, (!(decide (1 + F.size ≤ 100) && decide (1 + F.depth ≤ 30))) = z := ⟨_, rfl⟩
        rw [hg1] at hbg
        have HBG := Lib.hid hbg
        have HX := Lib.hid (And.intro hx (And.intro hty hg1))
        dsimp only [slv, tyVal] at x0 x1 x2 x3 x4 x5 HBG
        have x4' : wr.cell? ⟨b, off + j * 8 + 3 + 1, none⟩ = some (.int .i64 n1) := x4
        have x5' : wr.cell? ⟨b, off + j * 8 + 3 + 2, none⟩ = some (.slice v1 v2 v3) := x5
        clear hx hty hg1 hbg
        go_wp2_with fail
        refine HBG.out.mono ?_
        rintro e w2 ⟨rfl, hb2⟩
        have hb2' : Below w.heap.size w w2 := HB.out.1.trans (hb2.mono HB.out.1.size)
        have HB2 := Lib.hid hb2'
        clear HBG
        cases g1 with
        | true =>
          clear hb2 hb2' x0 x1 x2 x3 x4 x5 x4' x5'
          go_wp2_with fail
          exact bodyPost_ret (results_tmp rfl _ _ _) rfl ⟨true, rfl, (fun e => by cases e), HB2.out⟩
        | false =>
          obtain ⟨_, _, e1, hat2, hty2⟩ := H.out.here hb2' j hjl
          cases e1
          rw [HX.out.1] at hat2 hty2
          obtain ⟨y0, y1, y2, y3, y4, y5, _, _⟩ := hat2
          have hbg := big12 F' k1 n1 _ w2 hty2.2
          obtain ⟨g2, hg2⟩ : ∃ z, (!(decide (1 + F'.size ≤ 100) && decide (1 + F'.depth ≤ 30))) = z := ⟨_, rfl⟩
          rw [hg2] at hbg
          have HBG := Lib.hid hbg
          have HX2 := Lib.hid (And.intro hty2 hg2)
          dsimp only [slv, tyVal] at y0 y1 y2 y3 y4 y5 HBG
          have y4' : w2.cell? ⟨b, off + j * 8 + 3 + 1, none⟩ = some (.int .i64 n1) := y4
          have y5' : w2.cell? ⟨b, off + j * 8 + 3 + 2, none⟩ = some (.slice v1 v2 v3) := y5
          clear hty2 hg2 hbg x0 x1 x2 x3 x4 x5 x4' x5' hb2 hb2'
          go_wp2_with fail
          refine HBG.out.mono ?_
          rintro e w3 ⟨rfl, hb3⟩
          have hb3' : Below w.heap.size w w3 := HB2.out.trans (hb3.mono HB2.out.size)
          have HB3 := Lib.hid hb3'
          clear HBG y0 y1 y2 y3 y4 y5 y4' y5' hb3
          cases g2 with
          | true =>
            clear hb3'
            go_wp2_with fail
            exact bodyPost_ret (results_tmp rfl _ _ _) rfl ⟨true, rfl, (fun e => by cases e), HB3.out⟩
          | false =>
            have hF : 1 + F.size ≤ 100 ∧ 1 + F'.size ≤ 100 := by
              have h1 := HX.out.2.2
              have h2 := HX2.out.2
              simp only [Bool.not_eq_false', Bool.and_eq_true, decide_eq_true_eq] at h1 h2
              exact ⟨h1.1, h2.1⟩
            obtain ⟨_, _, e1, hat3, hty3⟩ := H.out.here hb3' j hjl
            cases e1
            rw [HX.out.1] at hat3 hty3
            obtain ⟨z0, z1, z2, z3, z4, z5, _, _⟩ := hat3
            dsimp only [slv] at z0 z1 z2 z3 z4 z5
            obtain ⟨S0, hSof, hSto⟩ : ∃ S0 : World → Prop, (∀ W : World, Below w3.heap.size w3 W → S0 W) ∧ (∀ W, S0 W → (W.cell? ⟨b, off + j * 8, none⟩ = some (.int .i64 k0) ∧ W.cell? ⟨b, off + j * 8 + 1, none⟩ = some (.int .i64 n0) ∧ W.cell? ⟨b, off + j * 8 + 2, none⟩ = some (.slice u1 u2 u3)) ∧ W.cell? ⟨b, off + j * 8 + 3, none⟩ = some (.int .i64 k1) ∧ W.cell? ⟨b, off + j * 8 + 3 + 1, none⟩ = some (.int .i64 n1) ∧ W.cell? ⟨b, off + j * 8 + 3 + 2, none⟩ = some (.slice v1 v2 v3)) :=
              ⟨fun W => Below w3.heap.size w3 W, fun _ h => h, fun W hb =>
                have c : ∀ (o : Nat) (u : Value), w3.cell? ⟨b, o, none⟩ = some u → W.cell? ⟨b, o, none⟩ = some u := fun o u h => (hb.cell (World.block_lt_of_cell? _ _ h)).trans h
                ⟨⟨c _ _ z0, c _ _ z1, c _ _ z2⟩, c _ _ z3, c _ _ z4, c _ _ z5⟩⟩
            have hd3 : Below w3.heap.size w3 w3.drew := (Below.refl _ _).drew
            have hS : S0 w3.drew := hSof _ hd3
            have HS1 := rsize_any (F.size + 1) F k0 n0 (slv (u1, u2, u3)) w3.drew (by omega) (by omega) (hty3.1.onward hd3)
            have HTY := Lib.hid hty3
            have EX := Lib.hid hSto
            have HSOF := Lib.hid hSof
            have HSH := Lib.hid HS1
            obtain ⟨p, hp⟩ : ∃ z, F.size = z := ⟨_, rfl⟩
            obtain ⟨q, hq⟩ : ∃ z, F'.size = z := ⟨_, rfl⟩
            have HPQ := Lib.hid (And.intro hp hq)
            rw [hp] at HSH
            have hpq : p ≤ 99 ∧ q ≤ 99 := by omega
            dsimp only [tyVal, slv] at HSH
            clear hSof hSto HS1 z0 z1 z2 z3 z4 z5 hb3' hty3 hp hq hF
            have hd3' := Lib.hid hd3
            have hw1 : IntKind.i64.wrap ((s : Int) + (1 + (p : Int))) = (s : Int) + (1 + (p : Int)) := wrap_small _ (by omega) (by omega)
            have hw2 : IntKind.i64.wrap ((s : Int) + (1 + (p : Int)) + (1 + (q : Int))) = (s : Int) + (1 + (p : Int)) + (1 + (q : Int)) := wrap_small _ (by omega) (by omega)
            clear hd3
            go_wp2_with fail
            refine wp_region_held (S := S0) (by kernel_rfl) ?_
            change wpAnyH _ _ _ _ _ 16 (List.replicate 16 false).toArray _ w3.drew
            simp only [List.replicate_succ, List.replicate_zero]
            refine any_take (i := 0) (some 29) (.int .i64 (s : Nat)) rfl (by rfl) (by kernel_rfl) (by kernel_rfl) (by kernel_rfl) (fun _ _ _ h => h) (Or.inl ⟨by kernel_rfl, (fun W hw => by clear hw; go_simp)⟩) hS ?_
            simp only [Act.put, List.setIfInBounds_toArray, List.set_cons_zero, List.set_cons_succ]
            refine any_take (i := 1) (some 30) (.slice (some ⟨b, off, none⟩) l.length c) rfl (by rfl) (by kernel_rfl) (by kernel_rfl) (by kernel_rfl) (fun _ _ _ h => h) (Or.inl ⟨by kernel_rfl, (fun W hw => by clear hw; go_simp)⟩) hS ?_
            simp only [Act.put, List.setIfInBounds_toArray, List.set_cons_zero, List.set_cons_succ]
            refine any_take (i := 2) (some 31) (.int .i64 (j : Nat)) rfl (by rfl) (by kernel_rfl) (by kernel_rfl) (by kernel_rfl) (fun _ _ _ h => h) (Or.inl ⟨by kernel_rfl, (fun W hw => by clear hw; go_simp)⟩) hS ?_
            simp only [Act.put, List.setIfInBounds_toArray, List.set_cons_zero, List.set_cons_succ]
            refine any_take (i := 3) (some 32) (.pointer (some ⟨b, off + j * 8, none⟩)) rfl (by rfl) (by kernel_rfl) (by kernel_rfl) (by kernel_rfl) (fun _ _ _ h => h) (Or.inl ⟨by kernel_rfl, (fun W hw => by clear hw; go_simp)⟩) hS ?_
            simp only [Act.put, List.setIfInBounds_toArray, List.set_cons_zero, List.set_cons_succ]
            refine any_take (i := 4) (some 33) (.pointer (some ⟨b, off + j * 8, none⟩)) rfl (by rfl) (by kernel_rfl) (by kernel_rfl) (by kernel_rfl) (fun _ _ _ h => h) (Or.inl ⟨by kernel_rfl, (fun W hw => by clear hw; go_simp)⟩) hS ?_
            simp only [Act.put, List.setIfInBounds_toArray, List.set_cons_zero, List.set_cons_succ]
            refine any_take (i := 5) (some 34) (.agg #[.int .i64 k0, .int .i64 n0, .slice u1 u2 u3]) rfl (by rfl) (by kernel_rfl) (by kernel_rfl) (by kernel_rfl) (fun _ _ _ h => h) (Or.inl ⟨by kernel_rfl, (fun W hw => by obtain ⟨⟨n0_, n1_, n2_⟩, m0_, m1_, m2_⟩ := EX.out W hw; clear hw; go_simp)⟩) hS ?_
            simp only [Act.put, List.setIfInBounds_toArray, List.set_cons_zero, List.set_cons_succ]
            refine any_take (i := 8) (some 37) (.slice (some ⟨b, off, none⟩) l.length c) rfl (by rfl) (by kernel_rfl) (by kernel_rfl) (by kernel_rfl) (fun _ _ _ h => h) (Or.inl ⟨by kernel_rfl, (fun W hw => by clear hw; go_simp)⟩) hS ?_
            simp only [Act.put, List.setIfInBounds_toArray, List.set_cons_zero, List.set_cons_succ]
            refine any_take (i := 9) (some 38) (.int .i64 (j : Nat)) rfl (by rfl) (by kernel_rfl) (by kernel_rfl) (by kernel_rfl) (fun _ _ _ h => h) (Or.inl ⟨by kernel_rfl, (fun W hw => by clear hw; go_simp)⟩) hS ?_
            simp only [Act.put, List.setIfInBounds_toArray, List.set_cons_zero, List.set_cons_succ]
            refine any_take (i := 10) (some 39) (.pointer (some ⟨b, off + j * 8, none⟩)) rfl (by rfl) (by kernel_rfl) (by kernel_rfl) (by kernel_rfl) (fun _ _ _ h => h) (Or.inl ⟨by kernel_rfl, (fun W hw => by clear hw; go_simp)⟩) hS ?_
            simp only [Act.put, List.setIfInBounds_toArray, List.set_cons_zero, List.set_cons_succ]
            refine any_take (i := 11) (some 40) (.pointer (some ⟨b, off + j * 8 + 3, none⟩)) rfl (by rfl) (by kernel_rfl) (by kernel_rfl) (by kernel_rfl) (fun _ _ _ h => h) (Or.inl ⟨by kernel_rfl, (fun W hw => by clear hw; go_simp)⟩) hS ?_
            simp only [Act.put, List.setIfInBounds_toArray, List.set_cons_zero, List.set_cons_succ]
            refine any_take (i := 12) (some 41) (.agg #[.int .i64 k1, .int .i64 n1, .slice v1 v2 v3]) rfl (by rfl) (by kernel_rfl) (by kernel_rfl) (by kernel_rfl) (fun _ _ _ h => h) (Or.inl ⟨by kernel_rfl, (fun W hw => by obtain ⟨⟨n0_, n1_, n2_⟩, m0_, m1_, m2_⟩ := EX.out W hw; clear hw; go_simp)⟩) hS ?_
            simp only [Act.put, List.setIfInBounds_toArray, List.set_cons_zero, List.set_cons_succ]
            refine wpAnyH_all (rs := [6]) (by kernel_rfl) (by simp) fun q' hq' => ?_
            obtain rfl : q' = 6 := by simpa using hq'
            refine ops_call (d := some 35) rfl (by rfl) (by kernel_rfl) (by go_simp) (HSH.out.mono ?_)
            rintro e w4 ⟨rfl, hb4⟩
            have hb4 := hd3'.out.trans hb4
            have hS4 := HSOF.out w4 hb4
            have HS2 := rsize_any (F'.size + 1) F' k1 n1 (slv (v1, v2, v3)) w4 (by omega) (by have := HPQ.out; omega) (HTY.out.2.onward hb4)
            rw [HPQ.out.2] at HS2
            dsimp only [tyVal, slv] at HS2
            have HB4 := Lib.hid hb4
            have HSH2 := Lib.hid HS2
            clear HS2 hb4
            refine ⟨_, rfl, hS4, ?_⟩
            simp only [Act.put, List.setIfInBounds_toArray, List.set_cons_zero, List.set_cons_succ]
            refine any_take (i := 7) (some 36) (.int .i64 ((s : Int) + (1 + (p : Int)))) rfl (by rfl) (by kernel_rfl) (by kernel_rfl) (by kernel_rfl) (fun _ _ _ h => h) (Or.inl ⟨by kernel_rfl, (fun W hw => by clear hw; go_simp)⟩) hS4 ?_
            simp only [Act.put, List.setIfInBounds_toArray, List.set_cons_zero, List.set_cons_succ]
            refine wpAnyH_all (rs := [13]) (by kernel_rfl) (by simp) fun q' hq' => ?_
            obtain rfl : q' = 13 := by simpa using hq'
            refine ops_call (d := some 42) rfl (by rfl) (by kernel_rfl) (by go_simp) (HSH2.out.mono ?_)
            rintro e w5 ⟨rfl, hb5⟩
            have hb5 := HB4.out.trans (hb5.mono HB4.out.size)
            have hS5 := HSOF.out w5 hb5
            have HB5 := Lib.hid hb5
            clear hb5
            refine ⟨_, rfl, hS5, ?_⟩
            simp only [Act.put, List.setIfInBounds_toArray, List.set_cons_zero, List.set_cons_succ]
            refine any_take (i := 14) (some 43) (.int .i64 ((s : Int) + (1 + (p : Int)) + (1 + (q : Int)))) rfl (by rfl) (by kernel_rfl) (by kernel_rfl) (by kernel_rfl) (fun _ _ _ h => h) (Or.inl ⟨by kernel_rfl, (fun W hw => by clear hw; go_simp)⟩) hS5 ?_
            simp only [Act.put, List.setIfInBounds_toArray, List.set_cons_zero, List.set_cons_succ]
            refine any_take (i := 15) (some 3) (.int .i64 ((s : Int) + (1 + (p : Int)) + (1 + (q : Int)))) rfl (by rfl) (by kernel_rfl) (by kernel_rfl) (by kernel_rfl) (fun _ _ _ h => h) (Or.inl ⟨by kernel_rfl, (fun W hw => by clear hw; go_simp)⟩) hS5 ?_
            simp only [Act.put, List.setIfInBounds_toArray, List.set_cons_zero, List.set_cons_succ]
            refine wpAnyH_done (by kernel_rfl) ?_ _
            clear hS hS4 hS5 HSH HSH2 EX HSOF
            go_wp2_with fail
            have hst := esz_step l j hjl
            rw [HX.out.1] at hst
            have h3 := HB.out.2.2
            have hp := HPQ.out
            refine ⟨⟨j + 1, congrArg (Value.int .i64) (by omega), by omega, by omega, congrArg (Value.int .i64) ?_, fun x hx => ?_, HB3.out.trans (HB5.out.mono HB3.out.size)⟩, ?_⟩
            · rw [hst, h3]
              simp only [sz1]
              omega
            · rw [List.take_add_one, List.getElem?_eq_getElem hjl] at hx
              rcases List.mem_append.1 hx with hx | hx
              · exact HB.out.2.1 x hx
              · simp only [Option.toList_some, List.mem_singleton] at hx
                rw [hx, HX.out.1]
                exact ⟨by show 1 + F.size ≤ 100; omega, by show 1 + F'.size ≤ 100; omega⟩
            · show l.length - (intOf (.int .i64 ((j : Int) + 1))).toNat < l.length - (intOf (.int .i64 (j : Nat))).toNat
              simp only [intOf]
              omega
      · have f2 : decide ((j : Int) < 30) = false := decide_eq_false (by omega)
        by_cases g1 : 20 < l.length
        · have f3 : decide ((20 : Int) < (l.length : Int)) = true := decide_eq_true (by omega)
          go_wp2_with fail
          exact bodyPost_ret (results_tmp rfl _ _ _) rfl ⟨true, rfl, (fun e => by cases e), HB.out.1⟩
        · have f3 : decide ((20 : Int) < (l.length : Int)) = false := decide_eq_false (by omega)
          have hjj : j = l.length := by omega
          by_cases g2 : 160 < s
          · have f4 : decide ((160 : Int) < (s : Int)) = true := decide_eq_true (by omega)
            go_wp2_with fail
            exact bodyPost_ret (results_tmp rfl _ _ _) rfl ⟨true, rfl, (fun e => by cases e), HB.out.1⟩
          · have f4 : decide ((160 : Int) < (s : Int)) = false := decide_eq_false (by omega)
            go_wp2_with fail
            refine bodyPost_ret (results_tmp rfl _ _ _) rfl ⟨false, rfl, fun _ => ⟨by omega, ?_⟩, HB.out.1⟩
            have h3 := HB.out.2.2
            rw [hjj, List.take_length] at h3
            omega
    · have f1 : decide ((j : Int) < (l.length : Int)) = false := decide_eq_false (by omega)
      by_cases g1 : 20 < l.length
      · have f3 : decide ((20 : Int) < (l.length : Int)) = true := decide_eq_true (by omega)
        go_wp2_with fail
        exact bodyPost_ret (results_tmp rfl _ _ _) rfl ⟨true, rfl, (fun e => by cases e), HB.out.1⟩
      · have f3 : decide ((20 : Int) < (l.length : Int)) = false := decide_eq_false (by omega)
        have hjj : j = l.length := by omega
        by_cases g2 : 160 < s
        · have f4 : decide ((160 : Int) < (s : Int)) = true := decide_eq_true (by omega)
          go_wp2_with fail
          exact bodyPost_ret (results_tmp rfl _ _ _) rfl ⟨true, rfl, (fun e => by cases e), HB.out.1⟩
        · have f4 : decide ((160 : Int) < (s : Int)) = false := decide_eq_false (by omega)
          go_wp2_with fail
          refine bodyPost_ret (results_tmp rfl _ _ _) rfl ⟨false, rfl, fun _ => ⟨by omega, ?_⟩, HB.out.1⟩
          have h3 := HB.out.2.2
          rw [hjj, List.take_length] at h3
          omega
end Go.Proofs.Ytbnpmeaaaecciaa
/- unify's laws: the right equations. -/
namespace Go.Proofs.Ytbnpmeaaaecciaa
open Go.RowKit
set_option maxRecDepth 100000
attribute [local go_sem] Oper.semAt_some
attribute [local go_sem ↓] builtin_app
/-- Whether both sides are right. -/
def rt1 (t : Ty1) : Bool := alone t.1 t.2.1 t.2.2.2.len && allAlone t.2.2.2.pre
def rtE (x : Eqn) : Bool := rt1 x.1 && rt1 x.2.1
def rights (l : List Eqn) : List Eqn := l.filter rtE
theorem rights_step (l : List Eqn) (j : Nat) (hj : j < l.length) : rights (l.take (j + 1)) = rights (l.take j) ++ if rtE l[j] = true then [l[j]] else [] := by
  unfold rights
  rw [List.take_add_one, List.getElem?_eq_getElem hj, List.filter_append]
  congr 1
  simp only [Option.toList_some, List.filter_cons, List.filter_nil]
theorem rights_len (l : List Eqn) : (rights l).length ≤ l.length := List.length_filter_le _ _
def eqR (l : List Eqn) : List Value := l.flatMap eqC
theorem eqR_len (l : List Eqn) : (eqR l).length = l.length * 8 := by
  induction l with
  | nil => rfl
  | cons x l ih =>
    unfold eqR at ih ⊢
    rw [List.flatMap_cons, List.length_append, ih, List.length_cons, Nat.succ_mul]
    simp only [eqC, List.length_cons, List.length_nil]
    omega
theorem eqR_app (l m : List Eqn) : eqR (l ++ m) = eqR l ++ eqR m := by simp [eqR]
theorem eqR_get {l : List Eqn} {i : Nat} (hi : i < l.length) (o : Nat) (ho : o < 8) : (eqR l)[i * 8 + o]? = (eqC l[i])[o]? := by
  induction l generalizing i with
  | nil => simp at hi
  | cons x l ih =>
    have e : eqR (x :: l) = eqC x ++ eqR l := by simp [eqR]
    rw [e]
    have hx : (eqC x).length = 8 := rfl
    cases i with
    | zero =>
      rw [List.getElem?_append_left (by omega)]
      simp
    | succ i =>
      rw [List.getElem?_append_right (by omega), hx, show (i + 1) * 8 + o - 8 = i * 8 + o by omega]
      simp only [List.length_cons] at hi
      rw [ih (by omega)]
      simp
theorem eqInfo : (Try.prog.info? 40).map (fun i => (i.zero, i.size, i.bytes)) = some (some (.agg #[.int .i64 0, .int .i64 0, .slice none 0 0, .int .i64 0, .int .i64 0, .slice none 0 0, .int .i64 0, .int .i64 0]), 8, 96) := by kernel_rfl
theorem app_eq (W : World) (v : Value) (l : List Eqn) (base : Nat) (hb : base ≤ W.heap.size) (hown : W.ownsRow base 40 8 v l.length (eqR l)) (x : Eqn) (hm : l.length ≤ 100000) :
    ∃ g cp w1, (app_ #[22, 22] 22 #[v, .slice (some ⟨W.heap.size, 0, none⟩) 1 1]).run Try.prog (W.alloc (.cells (eqC x).toArray 40)) = .ok (.slice (some ⟨g, 0, none⟩) (l.length + 1) cp) w1 ∧
      w1.ownsRow base 40 8 (.slice (some ⟨g, 0, none⟩) (l.length + 1) cp) (l ++ [x]).length (eqR (l ++ [x])) ∧ (W.alloc (.cells (eqC x).toArray 40)).grownBy w1 v.ownBlock := by
  obtain ⟨i0, hi0, hz0, hz1, hz2⟩ := Un.info_parts eqInfo
  have rd1 : Rd (W.alloc (.cells (eqC x).toArray 40)) 8 (.slice (some ⟨W.heap.size, 0, none⟩) 1 1) 1 (eqC x) := rd_new W (eqC x) 40 8 1 rfl (by unfold maxLen; omega)
  obtain ⟨v', w1, hrun, hown1, hg1, hat⟩ := run_append_rd (P := Try.prog) _ base 22 22 40 i0 _ 8 96 Try.underlying22 hi0 hz0 hz1 hz2 rfl (by omega) v l.length (eqR l) (hown.alloc _) _ 1 _ rd1 (by intro y hy; simp only [eqC, slv, List.mem_cons, List.not_mem_nil, or_false] at hy; rcases hy with rfl | rfl | rfl | rfl | rfl | rfl | rfl | rfl <;> rfl) (by unfold maxLen; omega) (by omega) (by simp; omega)
  obtain ⟨g, cp, rfl, _, _⟩ := Un.own_shape hown1 (by omega)
  refine ⟨g, cp, w1, hrun, ?_, hg1⟩
  rw [eqR_app, List.length_append]
  exact hown1
/-- What comes of Rights, as it lies. -/
theorem EqV.of_own {w : World} {l : List Eqn} {v : Value} {B : Nat} (h : w.ownsRow B 40 8 v l.length (eqR l)) (ht : ∀ x ∈ l, EqT w.heap.size w x) : EqV w.heap.size w l v := by
  by_cases h0 : 0 < l.length
  · obtain ⟨g, c, rfl, hc, hg⟩ := Un.own_shape h h0
    obtain ⟨_, _, e, _, hcm⟩ := Un.own_form h
    cases e
    refine ⟨_, _, rfl, fun _ => ⟨g, 0, rfl, hg, hc, hcm, fun i hi => ?_⟩, ht⟩
    have hl := eqR_len l
    have hc8 : (eqC l[i]).length = 8 := rfl
    have k : ∀ o, (ho : o < 8) → w.cell? ⟨g, 0 + i * 8 + o, none⟩ = (eqC l[i])[o]? := fun o ho => by
      rw [Nat.zero_add, h.cellAt (i * 8 + o) (by omega)]
      exact eqR_get hi o ho
    exact ⟨k 0 (by omega), k 1 (by omega), k 2 (by omega), k 3 (by omega), k 4 (by omega), k 5 (by omega), k 6 (by omega), k 7 (by omega)⟩
  · have : l = [] := List.eq_nil_of_length_eq_zero (by omega)
    subst this
    obtain ⟨A, c, rfl, _, _⟩ := Un.own_form h
    exact ⟨A, c, rfl, fun h => absurd h h0, ht⟩
theorem size_of_esz {l : List Eqn} {x : Eqn} (hx : x ∈ l) : x.1.2.2.2.size ≤ esz l ∧ x.2.1.2.2.2.size ≤ esz l := by
  induction l with
  | nil => cases hx
  | cons y l ih =>
    have e : esz (y :: l) = sz1 y + esz l := by simp [esz]
    rcases List.mem_cons.1 hx with rfl | hx
    · rw [e]; unfold sz1; omega
    · have := ih hx
      rw [e]; omega
set_option maxHeartbeats 4000000 in
theorem rights12_any (w : World) (l : List Eqn) (v : Value) (h : EqV w.heap.size w l v) (hl : l.length ≤ 20) (hs : esz l ≤ 160) :
    Calls Try.prog 10 #[v] w fun e w' => ∃ v', e = .returned v' ∧ EqV w'.heap.size w' (rights l) v' ∧ Below w.heap.size w w' := by
  obtain ⟨A, c, rfl⟩ := h.form
  have H := Lib.hid h
  clear h
  go_enter Try.func10, Try.ntmps10
  go_wp2_with fail
  go_loopw [3, 4] (fun s t wr => ∃ (j : Nat), t = .int .i64 (j : Nat) ∧ j ≤ l.length ∧ wr.ownsRow w.heap.size 40 8 s (rights (l.take j)).length (eqR (rights (l.take j))) ∧ Below w.heap.size w wr) (fun _ t _ => l.length - (intOf t).toNat)
  case atStart => exact ⟨0, rfl, Nat.zero_le _, World.ownsRow_nil _ _ _ _, Below.refl _ _⟩
  case round =>
    obtain ⟨j, rfl, hj, hown, hb⟩ := hrel
    obtain ⟨A', c', rfl, _, _⟩ := Un.own_form hown
    have hrl : (rights (l.take j)).length ≤ 20 := by have := rights_len (l.take j); rw [List.length_take] at this; omega
    obtain ⟨m, hm⟩ : ∃ m, (rights (l.take j)).length = m := ⟨_, rfl⟩
    have HB := Lib.hid (And.intro hb (And.intro hown hm))
    rw [hm] at hrl ⊢
    clear hb hown hm
    by_cases hjl : j < l.length
    · have f1 : decide ((j : Int) < (l.length : Int)) = true := decide_eq_true (by omega)
      obtain ⟨b, off, rfl, hat, hty⟩ := H.out.here HB.out.1 j hjl
      have hsz := size_of_esz (List.getElem_mem hjl)
      obtain ⟨x, hx⟩ : ∃ x, l[j] = x := ⟨_, rfl⟩
      rw [hx] at hat hty hsz
      obtain ⟨⟨k0, n0, ⟨u1, u2, u3⟩, F⟩, ⟨k1, n1, ⟨v1, v2, v3⟩, F'⟩, a0, a1⟩ := x
      obtain ⟨x0, x1, x2, x3, x4, x5, _, _⟩ := hat
      have hR := rright_any (F.size + 1) F k0 n0 (slv (u1, u2, u3)) wr (by omega) (by have h9 : F.size ≤ esz l := hsz.1; omega) hty.1
      obtain ⟨r1, hr1⟩ : ∃ z, (alone k0 n0 F.len && allAlone F.pre) = z := ⟨_, rfl⟩
      rw [hr1] at hR
      have HR := Lib.hid hR
      have HX := Lib.hid (And.intro hx (And.intro hsz hr1))
      dsimp only [slv, tyVal] at x0 x1 x2 x3 x4 x5 HR
      clear hx hsz hr1 hR hty x3 x4 x5
      go_wp2_with fail
      refine HR.out.mono ?_
      rintro e w2 ⟨rfl, hb2⟩
      have hb2' : Below w.heap.size w w2 := HB.out.1.trans (hb2.mono HB.out.1.size)
      have hown2 := own_below HB.out.2.1 hb2
      have HB2 := Lib.hid (And.intro hb2' hown2)
      clear HR x0 x1 x2 hown2
      cases r1 with
      | false =>
        have hrt : rtE l[j] = false := by rw [HX.out.1]; show (rt1 _ && rt1 _) = false; rw [show rt1 (k0, n0, (u1, u2, u3), F) = false from HX.out.2.2]; rfl
        clear hb2 hb2'
        go_wp2_with fail
        have hst := rights_step l j hjl
        rw [hrt, if_neg (by decide), List.append_nil] at hst
        refine ⟨⟨j + 1, congrArg (Value.int .i64) (by omega), by omega, ?_, HB2.out.1⟩, ?_⟩
        · rw [hst, ← HB.out.2.2]
          exact HB2.out.2
        · show l.length - (intOf (.int .i64 ((j : Int) + 1))).toNat < l.length - (intOf (.int .i64 (j : Nat))).toNat
          simp only [intOf]
          omega
      | true =>
        obtain ⟨_, _, e1, hat2, hty2⟩ := H.out.here hb2' j hjl
        cases e1
        rw [HX.out.1] at hat2 hty2
        obtain ⟨y0, y1, y2, y3, y4, y5, y6, y7⟩ := hat2
        have hR := rright_any (F'.size + 1) F' k1 n1 (slv (v1, v2, v3)) w2 (by omega) (by have h9 : F'.size ≤ esz l := HX.out.2.1.2; omega) hty2.2
        obtain ⟨r2, hr2⟩ : ∃ z, (alone k1 n1 F'.len && allAlone F'.pre) = z := ⟨_, rfl⟩
        rw [hr2] at hR
        have HR := Lib.hid hR
        have HX2 := Lib.hid hr2
        dsimp only [slv, tyVal] at y0 y1 y2 y3 y4 y5 y6 y7 HR
        have y4' : w2.cell? ⟨b, off + j * 8 + 3 + 1, none⟩ = some (.int .i64 n1) := y4
        have y5' : w2.cell? ⟨b, off + j * 8 + 3 + 2, none⟩ = some (.slice v1 v2 v3) := y5
        clear hty2 hr2 hR hb2 hb2' y0 y1 y2 y6 y7
        go_wp2_with fail
        refine HR.out.mono ?_
        rintro e w3 ⟨rfl, hb3⟩
        have hb3' : Below w.heap.size w w3 := HB2.out.1.trans (hb3.mono HB2.out.1.size)
        have hown3 := own_below HB2.out.2 hb3
        have HB3 := Lib.hid (And.intro hb3' hown3)
        clear HR y3 y4 y5 y4' y5' hb3
        cases r2 with
        | false =>
          have hrt : rtE l[j] = false := by rw [HX.out.1]; show (rt1 _ && rt1 _) = false; rw [show rt1 (k1, n1, (v1, v2, v3), F') = false from HX2.out]; simp
          clear hb3' hown3
          go_wp2_with fail
          have hst := rights_step l j hjl
          rw [hrt, if_neg (by decide), List.append_nil] at hst
          refine ⟨⟨j + 1, congrArg (Value.int .i64) (by omega), by omega, ?_, HB3.out.1⟩, ?_⟩
          · rw [hst, ← HB.out.2.2]
            exact HB3.out.2
          · show l.length - (intOf (.int .i64 ((j : Int) + 1))).toNat < l.length - (intOf (.int .i64 (j : Nat))).toNat
            simp only [intOf]
            omega
        | true =>
          have hrt : rtE l[j] = true := by rw [HX.out.1]; show (rt1 _ && rt1 _) = true; rw [show rt1 (k0, n0, (u1, u2, u3), F) = true from HX.out.2.2, show rt1 (k1, n1, (v1, v2, v3), F') = true from HX2.out]; rfl
          obtain ⟨_, _, e1, hat3, _⟩ := H.out.here hb3' j hjl
          cases e1
          rw [HX.out.1] at hat3
          obtain ⟨z0, z1, z2, z3, z4, z5, z6, z7⟩ := hat3
          dsimp only [slv] at z0 z1 z2 z3 z4 z5 z6 z7
          rw [HB.out.2.2] at hown3
          obtain ⟨g, cp, w4, hrun, hown4, hgr⟩ := app_eq w3 (.slice A' m c') (rights (l.take j)) w.heap.size hb3'.size (by rw [HB.out.2.2]; exact hown3) ((k0, n0, (u1, u2, u3), F), (k1, n1, (v1, v2, v3), F'), a0, a1) (by rw [HB.out.2.2]; omega)
          rw [HB.out.2.2] at hrun hown4
          have hrun' : (app_ #[22, 22] 22 #[.slice A' m c', .slice (some ⟨w3.heap.size, 0, none⟩) 1 1]).run Try.prog (w3.alloc (.cells #[.int .i64 k0, .int .i64 n0, .slice u1 u2 u3, .int .i64 k1, .int .i64 n1, .slice v1 v2 v3, .int .i64 a0, .int .i64 a1] 40)) = .ok (.slice (some ⟨g, 0, none⟩) (m + 1) cp) w4 := hrun
          have hb4 : Below w.heap.size w w4 := by
            have hE := ((Un.Else.alloc (fun i => (Value.slice A' m c').ownBlock = some i) w3 _).trans (Un.Else.grown hgr fun i hi => hi))
            exact hb3'.trans (hE.below (fun i hi => (hown3.lt i hi).1) hb3'.size)
          have HB4 := Lib.hid (And.intro hb4 hown4)
          clear hrun hown4 hgr hb4 hown3 hb3'
          go_wp2_with fail
          have hst := rights_step l j hjl
          rw [hrt, if_pos rfl, HX.out.1] at hst
          refine ⟨⟨j + 1, congrArg (Value.int .i64) (by omega), by omega, ?_, HB4.out.1⟩, ?_⟩
          · rw [hst]
            exact HB4.out.2
          · show l.length - (intOf (.int .i64 ((j : Int) + 1))).toNat < l.length - (intOf (.int .i64 (j : Nat))).toNat
            simp only [intOf]
            omega
    · have f1 : decide ((j : Int) < (l.length : Int)) = false := decide_eq_false (by omega)
      go_wp2_with fail
      have hjj : j = l.length := by omega
      have h3 := HB.out.2.1
      have hm := HB.out.2.2
      rw [hjj, List.take_length] at h3 hm
      rw [hm] at h3
      refine bodyPost_ret (results_tmp rfl _ _ _) rfl ⟨_, rfl, EqV.of_own (by rw [hm]; exact h3) fun x hx => ?_, HB.out.1⟩
      have hxl : x ∈ l := (List.mem_filter.1 hx).1
      obtain ⟨i, hi, rfl⟩ := List.mem_iff_getElem.1 hxl
      exact (H.out.later HB.out.1).ty i hi
end Go.Proofs.Ytbnpmeaaaecciaa
/- Types without the places where their parts lie. Nothing here speaks of the program. -/
namespace Go.Proofs.Ytbnpmeaaaecciaa
namespace Fo
/-- Without places. -/
def pure : Fo → Fo
  | nil => nil
  | cons k n _ ps r => cons k n (none, 0, 0) ps.pure r.pure
theorem pure_pure (f : Fo) : f.pure.pure = f.pure := by
  induction f with
  | nil => rfl
  | cons k n v ps r i1 i2 => simp [pure, i1, i2]
theorem pure_size (f : Fo) : f.pure.size = f.size := by
  induction f with
  | nil => rfl
  | cons k n v ps r i1 i2 => simp [pure, size, i1, i2]
theorem pure_len (f : Fo) : f.pure.len = f.len := by
  induction f with
  | nil => rfl
  | cons k n v ps r i1 i2 => simp [pure, len, i2]
theorem pure_depth (f : Fo) : f.pure.depth = f.depth := by
  induction f with
  | nil => rfl
  | cons k n v ps r i1 i2 => simp [pure, depth, i1, i2]
theorem pure_app (f g : Fo) : (f.app g).pure = f.pure.app g.pure := by
  induction f with
  | nil => rfl
  | cons k n v ps r i1 i2 => simp [pure, app, i2]
theorem same_iff (f g : Fo) : f.same g = true ↔ f.pure = g.pure := by
  induction f generalizing g with
  | nil => cases g <;> simp [same, pure]
  | cons k n v ps r i1 i2 => cases g with
    | nil => simp [same, pure]
    | cons k' n' v' ps' r' => simp [same, pure, i1, i2, and_assoc]
end Fo
theorem img_iff (f g : Fo) : Img idn f g ↔ g.pure = f.pure := by
  induction f generalizing g with
  | nil => cases g <;> simp [Img, Fo.pure]
  | cons k n v ps r i1 i2 => cases g with
    | nil => simp [Img, Fo.pure]
    | cons k' n' v' ps' r' => simp [Img, Fo.pure, i1, i2, nm_id]
end Go.Proofs.Ytbnpmeaaaecciaa
/- Nodes and the types that they stand for. -/
namespace Go.Proofs.Ytbnpmeaaaecciaa
/-- A node stands for that type. -/
def NEq (y : Rn) (q : Int × Int × Sl × Fo) : Prop := y.1 = q.1 ∧ y.2.1 = q.2.1 ∧ y.2.2.2.1.pure = q.2.2.2.pure
/-- Each node's parts stand for its type's parts, and come ahead. -/
def RI (R : List Rn) : Prop := ∀ (i : Nat) (x : Rn), R[i]? = some x → x.2.2.2.2.length = x.2.2.2.1.len ∧ ∀ j, j < x.2.2.2.1.len → ∃ (p : Nat) (y : Rn), x.2.2.2.2[j]? = some p ∧ p < i ∧ R[p]? = some y ∧ NEq y (x.2.2.2.1.at_ j)
/-- Variables have no parts. -/
def NV (R : List Rn) : Prop := ∀ x ∈ R, x.1 = 1 → x.2.2.2.1 = .nil
theorem get_app {α : Type} {l : List α} {i : Nat} {x : α} (h : l[i]? = some x) (e : List α) : (l ++ e)[i]? = some x := by
  rw [List.getElem?_append_left (List.getElem?_eq_some_iff.1 h).1]; exact h
theorem RI.snoc {R : List Rn} (h : RI R) (k n : Int) (u : Sl) (ps : Fo) (P : List Nat) (hl : P.length = ps.len) (hP : ∀ j, j < ps.len → ∃ p y, P[j]? = some p ∧ R[p]? = some y ∧ NEq y (ps.at_ j)) : RI (R ++ [(k, n, u, ps, P)]) := by
  intro i x hx
  rcases Nat.lt_or_ge i R.length with hi | hi
  · rw [List.getElem?_append_left hi] at hx
    obtain ⟨h1, h2⟩ := h i x hx
    refine ⟨h1, fun j hj => ?_⟩
    obtain ⟨p, y, a1, a2, a3, a4⟩ := h2 j hj
    exact ⟨p, y, a1, a2, get_app a3 _, a4⟩
  · have hi2 : i = R.length := by
      have := (List.getElem?_eq_some_iff.1 hx).1
      rw [List.length_append, List.length_singleton] at this
      omega
    subst hi2
    rw [List.getElem?_append_right (Nat.le_refl _), Nat.sub_self] at hx
    obtain rfl : (k, n, u, ps, P) = x := by simpa using hx
    refine ⟨hl, fun j hj => ?_⟩
    obtain ⟨p, y, a1, a2, a3⟩ := hP j hj
    exact ⟨p, y, a1, (List.getElem?_eq_some_iff.1 a2).1, get_app a2 _, a3⟩
structure RadOk (R : List Rn) (F : Fo) : Prop where
  ri : RI (radd R F).1
  nv : NV (radd R F).1
  ext : ∃ E, (radd R F).1 = R ++ E
  parts : ∀ j, j < F.len → ∃ p y, (radd R F).2[j]? = some p ∧ (radd R F).1[p]? = some y ∧ NEq y (F.at_ j)
theorem rnode_ok (R : List Rn) (k n : Int) (u : Sl) (ps : Fo) (P : List Nat) (h : RI R) (hv : NV R) (hk : k = 1 → ps = .nil) (hl : P.length = ps.len) (hP : ∀ j, j < ps.len → ∃ p y, P[j]? = some p ∧ R[p]? = some y ∧ NEq y (ps.at_ j)) :
    RI (rnode R k n u ps P).1 ∧ NV (rnode R k n u ps P).1 ∧ (∃ E, (rnode R k n u ps P).1 = R ++ E) ∧ ∃ y, (rnode R k n u ps P).1[(rnode R k n u ps P).2]? = some y ∧ NEq y (k, n, u, ps) := by
  unfold rnode
  split
  · rename_i i hi
    split at hi
    · rename_i h1
      obtain ⟨x, hx, hx1, hx2⟩ := gvar_at hi
      rw [List.getElem?_map] at hx
      obtain ⟨y, hy, rfl⟩ := Option.map_eq_some_iff.1 hx
      have hn := hv y (List.mem_of_getElem? hy) hx1
      exact ⟨h, hv, ⟨[], by simp⟩, y, hy, by rw [h1]; exact hx1, hx2, by rw [hn, hk h1]⟩
    · cases hi
  · refine ⟨h.snoc k n u ps P hl hP, fun x hx h1 => ?_, ⟨_, rfl⟩, (k, n, u, ps, P), by simp, rfl, rfl, rfl⟩
    rcases List.mem_append.1 hx with hx | hx
    · exact hv x hx h1
    · obtain rfl : x = (k, n, u, ps, P) := by simpa using hx
      exact hk h1
theorem radd_ok (F : Fo) : ∀ R, RI R → NV R → Vok F → RadOk R F := by
  induction F with
  | nil => intro R h hv _; exact ⟨by rw [radd_nil]; exact h, by rw [radd_nil]; exact hv, ⟨[], by simp [radd_nil]⟩, fun j hj => by simp [Fo.len] at hj⟩
  | cons k n u ps r i1 i2 =>
    intro R h hv hk
    obtain ⟨k1, k2, k3⟩ := hk
    have a := i1 R h hv k2
    obtain ⟨b1, b2, ⟨E2, b3⟩, y, b4, b5⟩ := rnode_ok (radd R ps).1 k n u ps (radd R ps).2 a.ri a.nv k1 (radd_len ps R).2 a.parts
    rw [← radd1_eq] at b1 b2 b3 b4
    have c := i2 _ b1 b2 k3
    obtain ⟨E1, e1⟩ := a.ext
    obtain ⟨E3, e3⟩ := c.ext
    refine ⟨by rw [radd_cons]; exact c.ri, by rw [radd_cons]; exact c.nv, ⟨E1 ++ (E2 ++ E3), ?_⟩, fun j hj => ?_⟩
    · rw [radd_cons]
      show (radd (radd1 R k n u ps).1 r).1 = _
      rw [e3, b3, e1]
      simp only [List.append_assoc]
    · rw [radd_cons]
      cases j with
      | zero => exact ⟨_, y, rfl, by rw [e3]; exact get_app b4 _, b5⟩
      | succ j =>
        obtain ⟨p, z, c1, c2, c3⟩ := c.parts j (by simp only [Fo.len] at hj; omega)
        exact ⟨p, z, by simpa using c1, c2, c3⟩
theorem radd1_ok (R : List Rn) (k n : Int) (u : Sl) (ps : Fo) (h : RI R) (hv : NV R) (hk : Vok (Fo.cons k n u ps .nil)) : RI (radd1 R k n u ps).1 ∧ NV (radd1 R k n u ps).1 ∧ (∃ E, (radd1 R k n u ps).1 = R ++ E) ∧ ∃ y, (radd1 R k n u ps).1[(radd1 R k n u ps).2]? = some y ∧ NEq y (k, n, u, ps) := by
  have a := radd_ok ps R h hv hk.2.1
  obtain ⟨b1, b2, ⟨E2, b3⟩, b4⟩ := rnode_ok (radd R ps).1 k n u ps (radd R ps).2 a.ri a.nv hk.1 (radd_len ps R).2 a.parts
  rw [← radd1_eq] at b1 b2 b3 b4
  obtain ⟨E1, e1⟩ := a.ext
  exact ⟨b1, b2, ⟨E1 ++ E2, by rw [b3, e1, List.append_assoc]⟩, b4⟩
/-- What all that were added leave. -/
structure BOk (s : List Rn × List Nat) : Prop where
  ri : RI s.1
  nv : NV s.1
  gi : GI (s.1.map rG)
theorem BOk.nil (A : List Nat) : BOk ([], A) := ⟨fun i x h => by simp at h, fun x h => by simp at h, fun x h => by simp at h⟩
theorem BOk.one {s : List Rn × List Nat} (h : BOk s) {k n : Int} {u : Sl} {ps : Fo} (hl : LenOk (Fo.cons k n u ps .nil)) : BOk (bOne s k n u ps) := by
  have hg := bOne_GI s k n u ps h.gi hl
  unfold bOne at hg ⊢
  split
  · rename_i ha
    rw [if_pos ha] at hg
    obtain ⟨a, b, _⟩ := radd1_ok s.1 k n u ps h.ri h.nv (vok_of ha hl)
    exact ⟨a, b, hg⟩
  · exact h
theorem bAll_ok (F : Fo) : ∀ s, BOk s → LenOk F → BOk (bAll s F) := by
  induction F with
  | nil => intro s h _; exact h
  | cons k n u ps r _ ih => intro s h hl; exact ih _ (h.one ⟨hl.1, hl.2.1, trivial⟩) hl.2.2
theorem bOne_ext {s : List Rn × List Nat} (h : BOk s) {k n : Int} {u : Sl} {ps : Fo} (hl : LenOk (Fo.cons k n u ps .nil)) : (∃ E, (bOne s k n u ps).1 = s.1 ++ E) ∧ ∃ E, (bOne s k n u ps).2 = s.2 ++ E := by
  unfold bOne
  split
  · rename_i ha
    obtain ⟨_, _, c, _⟩ := radd1_ok s.1 k n u ps h.ri h.nv (vok_of ha hl)
    exact ⟨c, ⟨_, rfl⟩⟩
  · exact ⟨⟨[], by simp⟩, ⟨[], by simp⟩⟩
theorem bAll_ext (F : Fo) : ∀ s, BOk s → LenOk F → (∃ E, (bAll s F).1 = s.1 ++ E) ∧ ∃ E, (bAll s F).2 = s.2 ++ E := by
  induction F with
  | nil => intro s _ _; exact ⟨⟨[], by simp [bAll]⟩, ⟨[], by simp [bAll]⟩⟩
  | cons k n u ps r _ ih =>
    intro s h hl
    have hc : LenOk (Fo.cons k n u ps .nil) := ⟨hl.1, hl.2.1, trivial⟩
    obtain ⟨⟨E1, e1⟩, ⟨E2, e2⟩⟩ := bOne_ext h hc
    obtain ⟨⟨E3, e3⟩, ⟨E4, e4⟩⟩ := ih _ (h.one hc) hl.2.2
    exact ⟨⟨E1 ++ E3, by simp only [bAll]; rw [e3, e1, List.append_assoc]⟩, ⟨E2 ++ E4, by simp only [bAll]; rw [e4, e2, List.append_assoc]⟩⟩
theorem bAll_take (F : Fo) (j : Nat) (hj : j ≤ F.len) (s : List Rn × List Nat) : bAll s F = bAll (bAll s (F.take j)) (F.drop j) := by
  induction F generalizing j s with
  | nil => cases j <;> rfl
  | cons k n u ps r _ ih =>
    cases j with
    | zero => rw [Fo.take_zero, Fo.drop_zero]; rfl
    | succ j => exact ih j (by simp only [Fo.len] at hj; omega) _
theorem LenOk.drop {F : Fo} (h : LenOk F) (j : Nat) : LenOk (F.drop j) := by
  induction F generalizing j with
  | nil => cases j <;> trivial
  | cons k n u ps r _ ih =>
    cases j with
    | zero => rw [Fo.drop_zero]; exact h
    | succ j => exact ih h.2.2 j
theorem LenOk.take {F : Fo} (h : LenOk F) (j : Nat) : LenOk (F.take j) := by
  induction F generalizing j with
  | nil => cases j <;> trivial
  | cons k n u ps r _ ih =>
    cases j with
    | zero => rw [Fo.take_zero]; trivial
    | succ j => exact ⟨h.1, h.2.1, ih h.2.2 j⟩
/-- A right type's node, whatever comes behind. -/
theorem bAll_at (F : Fo) (hl : LenOk F) (s : List Rn × List Nat) (hs : BOk s) (j : Nat) (hj : j < F.len) (hlc : LenOk (Fo.cons (F.at_ j).1 (F.at_ j).2.1 (F.at_ j).2.2.1 (F.at_ j).2.2.2 .nil)) (ha : allAlone (Fo.cons (F.at_ j).1 (F.at_ j).2.1 (F.at_ j).2.2.1 (F.at_ j).2.2.2 .nil).pre = true) :
    ∃ p y, (bAll s F).2[(bAll s (F.take j)).2.length]? = some p ∧ (bAll s F).1[p]? = some y ∧ NEq y (F.at_ j) ∧ (bAll s (F.take (j + 1))).2.length = (bAll s (F.take j)).2.length + 1 := by
  have h0 := bAll_ok (F.take j) s hs (hl.take j)
  have h1 := bAll_ok (F.take (j + 1)) s hs (hl.take (j + 1))
  obtain ⟨⟨E1, e1⟩, ⟨E2, e2⟩⟩ := bAll_ext (F.drop (j + 1)) _ h1 (hl.drop (j + 1))
  rw [← bAll_take F (j + 1) hj s] at e1 e2
  have hst := bAll_step F j hj s
  rw [bOne, if_pos ha] at hst
  obtain ⟨_, _, _, y, hy, hn⟩ := radd1_ok (bAll s (F.take j)).1 _ _ _ _ h0.ri h0.nv (vok_of ha hlc)
  refine ⟨(radd1 (bAll s (F.take j)).1 (F.at_ j).1 (F.at_ j).2.1 (F.at_ j).2.2.1 (F.at_ j).2.2.2).2, y, ?_, ?_, hn, by rw [hst]; simp⟩
  · rw [e2, hst]
    exact get_app (by simp) _
  · rw [e1, hst]
    exact get_app hy _
theorem bAll_not (F : Fo) (s : List Rn × List Nat) (j : Nat) (hj : j < F.len) (ha : allAlone (Fo.cons (F.at_ j).1 (F.at_ j).2.1 (F.at_ j).2.2.1 (F.at_ j).2.2.2 .nil).pre = false) : (bAll s (F.take (j + 1))).2.length = (bAll s (F.take j)).2.length := by
  rw [bAll_step F j hj, bOne, if_neg (by rw [ha]; simp)]
end Go.Proofs.Ytbnpmeaaaecciaa
/- A graph's variables, sorted: plain. -/
namespace Go.Proofs.Ytbnpmeaaaecciaa
/-- The variables, by their nodes. -/
def names (G : List Gn) : List Int := G.filterMap fun x => if x.1 = 1 then some x.2.1 else none
theorem names_snoc (G : List Gn) (x : Gn) : names (G ++ [x]) = names G ++ (if x.1 = 1 then [x.2.1] else []) := by
  simp only [names, List.filterMap_append]
  congr 1
  by_cases h : x.1 = 1 <;> simp [h]
theorem gvar_names (G : List Gn) (n : Int) : (gvar G n).isSome = true ↔ n ∈ names G := by
  induction G with
  | nil => simp [gvar, names]
  | cons x G ih =>
    simp only [gvar]
    by_cases h : x.1 = 1 ∧ x.2.1 = n
    · rw [if_pos h]
      simp [names, h.1, h.2]
    · rw [if_neg h, Option.isSome_map, ih]
      simp only [names, List.filterMap_cons]
      by_cases h1 : x.1 = 1
      · simp only [h1, if_true, List.mem_cons]
        constructor
        · exact .inr
        · rintro (h2 | h2)
          · exact absurd ⟨h1, h2.symm⟩ h
          · exact h2
      · simp only [h1, if_false]
/-- One more, in its place. -/
def insL : List Int → Int → List Int
  | [], n => [n]
  | a :: l, n => if a < n then a :: insL l n else n :: a :: l
theorem insL_perm (l : List Int) (n : Int) : (insL l n).Perm (n :: l) := by
  induction l with
  | nil => exact List.Perm.refl _
  | cons a l ih =>
    simp only [insL]
    split
    · exact (ih.cons a).trans (List.Perm.swap n a l)
    · exact List.Perm.refl _
theorem insL_sorted (l : List Int) (n : Int) (h : l.Pairwise (· ≤ ·)) : (insL l n).Pairwise (· ≤ ·) := by
  induction l with
  | nil => simp [insL]
  | cons a l ih =>
    obtain ⟨h1, h2⟩ := List.pairwise_cons.1 h
    simp only [insL]
    split
    · rename_i ha
      refine List.pairwise_cons.2 ⟨fun b hb => ?_, ih h2⟩
      rcases List.mem_cons.1 ((insL_perm l n).subset hb) with rfl | hb
      · omega
      · exact h1 b hb
    · rename_i ha
      refine List.pairwise_cons.2 ⟨fun b hb => ?_, h⟩
      rcases List.mem_cons.1 hb with rfl | hb
      · omega
      · have := h1 b hb; omega
theorem insL_at (l : List Int) (n : Int) (j : Nat) (hj : j ≤ l.length) (h1 : ∀ i a, i < j → l[i]? = some a → a < n) (h2 : ∀ a, l[j]? = some a → ¬ a < n) : insL l n = l.take j ++ n :: l.drop j := by
  induction l generalizing j with
  | nil => obtain rfl : j = 0 := by simpa using hj
           rfl
  | cons a l ih =>
    cases j with
    | zero =>
      have := h2 a rfl
      simp [insL, this]
    | succ j =>
      have := h1 0 a (by omega) rfl
      simp only [insL, this, if_true, List.take_succ_cons, List.drop_succ_cons, List.cons_append]
      rw [ih j (by simpa using hj) (fun i b hi hb => h1 (i + 1) b (by omega) (by simpa using hb)) (fun b hb => h2 b (by simpa using hb))]
theorem insL_len (l : List Int) (n : Int) : (insL l n).length = l.length + 1 := by simpa using (insL_perm l n).length_eq
/-- All variables, rising. -/
def vst (l : List Int) (x : Gn) : List Int := if x.1 = 1 then insL l x.2.1 else l
def vsort (G : List Gn) : List Int := G.foldl vst []
theorem vsort_snoc (G : List Gn) (x : Gn) : vsort (G ++ [x]) = vst (vsort G) x := by simp [vsort]
theorem vfold (G : List Gn) : ∀ l, l.Pairwise (· ≤ ·) → (G.foldl vst l).Pairwise (· ≤ ·) ∧ (G.foldl vst l).Perm (l ++ names G) := by
  induction G with
  | nil => intro l h; exact ⟨h, by simp [names]⟩
  | cons x G ih =>
    intro l h
    simp only [List.foldl_cons]
    by_cases hx : x.1 = 1
    · have e : names (x :: G) = x.2.1 :: names G := by simp [names, hx]
      obtain ⟨h1, h2⟩ := ih (insL l x.2.1) (insL_sorted l _ h)
      have e2 : vst l x = insL l x.2.1 := by simp [vst, hx]
      rw [e2, e]
      refine ⟨h1, h2.trans ((((insL_perm l x.2.1).append_right _)).trans ?_)⟩
      exact List.perm_middle.symm
    · have e : names (x :: G) = names G := by simp [names, hx]
      have e2 : vst l x = l := by simp [vst, hx]
      rw [e2, e]
      exact ih l h
theorem vsort_len (G : List Gn) : (vsort G).length ≤ G.length := by
  have h := (vfold G [] List.Pairwise.nil).2.length_eq
  have h2 : (names G).length ≤ G.length := List.length_filterMap_le _ _
  simp only [List.nil_append] at h
  unfold vsort
  omega
theorem vsort_take (G : List Gn) (j : Nat) (hj : j < G.length) : vsort (G.take (j + 1)) = vst (vsort (G.take j)) G[j] := by
  rw [List.take_add_one, List.getElem?_eq_getElem hj]
  exact vsort_snoc _ _
/-- Whatever sorts the same numbers gives the same. -/
theorem vsort_eq (G : List Gn) (ss : List Int) (h : ss.Perm (names G)) : (ss.mergeSort fun x y => decide (x ≤ y)) = vsort G := by
  obtain ⟨h1, h2⟩ := vfold G [] List.Pairwise.nil
  simp only [List.nil_append] at h2
  have tr : ∀ a b c : Int, decide (a ≤ b) = true → decide (b ≤ c) = true → decide (a ≤ c) = true := fun a b c p q => by simp only [decide_eq_true_eq] at *; omega
  have tot : ∀ a b : Int, (decide (a ≤ b) || decide (b ≤ a)) = true := fun a b => by simp only [Bool.or_eq_true, decide_eq_true_eq]; omega
  refine List.Perm.eq_of_pairwise (le := (· ≤ ·)) (fun a b _ _ h1 h2 => Int.le_antisymm h1 h2) ?_ h1 ((List.mergeSort_perm _ _).trans (h.trans h2.symm))
  exact (List.pairwise_mergeSort (le := fun x y => decide (x ≤ y)) tr tot ss).imp fun {a b} h => by simpa using h
/-- Each variable has one node; their numbers are such as an int may be. -/
structure ND (R : List Rn) : Prop where
  nd : (names (R.map rG)).Nodup
  wf : ∀ x ∈ R, (Lit.int .i64 x.2.1).wf = true
theorem ND.nil : ND [] := ⟨by simp [names], fun x h => by cases h⟩
theorem ND.names {R : List Rn} (h : ND R) : ∀ n ∈ names (R.map rG), (Lit.int .i64 n).wf = true := by
  intro n hn
  obtain ⟨x, hx, he⟩ := List.mem_filterMap.1 hn
  obtain ⟨y, hy, rfl⟩ := List.mem_map.1 hx
  split at he
  · injection he with he
    rw [← he]
    exact h.wf y hy
  · cases he
theorem rnode_ND {R : List Rn} {k n : Int} {u : Sl} {ps : Fo} {P : List Nat} (h : ND R) (hn : (Lit.int .i64 n).wf = true) : ND (rnode R k n u ps P).1 := by
  unfold rnode
  split
  · exact h
  · rename_i hg
    refine ⟨?_, fun x hx => ?_⟩
    · rw [List.map_append, List.map_cons, List.map_nil, names_snoc]
      by_cases hk : k = 1
      · rw [if_pos hk] at hg
        have : n ∉ Go.Proofs.Ytbnpmeaaaecciaa.names (R.map rG) := fun hm => by
          have := (gvar_names _ n).2 hm
          rw [hg] at this
          cases this
        simp only [rG, hk, if_true]
        exact List.nodup_append.2 ⟨h.nd, by simp, fun a ha b hb e => by simp at hb; subst hb; subst e; exact this ha⟩
      · simp only [rG, hk, if_false, List.append_nil]
        exact h.nd
    · rcases List.mem_append.1 hx with hx | hx
      · exact h.wf x hx
      · obtain rfl : x = (k, n, u, ps, P) := by simpa using hx
        exact hn
theorem radd_ND (F : Fo) : ∀ R, ND R → F.wf → ND (radd R F).1 := by
  induction F with
  | nil => intro R h _; rw [radd_nil]; exact h
  | cons k n u ps r i1 i2 =>
    intro R h hw
    rw [radd_cons]
    refine i2 _ ?_ hw.2.2
    rw [radd1_eq]
    exact rnode_ND (i1 R h hw.2.1) hw.1
theorem bAll_ND (F : Fo) : ∀ s, ND s.1 → F.wf → ND (bAll s F).1 := by
  induction F with
  | nil => intro s h _; exact h
  | cons k n u ps r _ ih =>
    intro s h hw
    refine ih _ ?_ hw.2.2
    unfold bOne
    split
    · have := radd_ND (.cons k n u ps .nil) s.1 h ⟨hw.1, hw.2.1, trivial⟩
      rw [radd_cons, radd_nil] at this
      exact this
    · exact h
end Go.Proofs.Ytbnpmeaaaecciaa
