/- Texts of one proof, one behind the other. -/
import Derived.Test.YtbnpmeaaaecciaaMgUnifyFirst32
/- UnifyFirst, walked. -/
namespace Go.Proofs.Ytbnpmeaaaecciaa
open Go.RowKit
open Un (rowI)
set_option maxRecDepth 100000
theorem EqV.upto {B : Nat} {w : World} {l : List Eqn} {A : Option Addr} {c : Nat} (h : EqV B w l (.slice A l.length c)) (k : Nat) (hk : k ≤ l.length) : EqV B w (l.take k) (.slice A k c) := by
  obtain ⟨A', c', hv, h1, h2⟩ := h
  injection hv with e1 e2 e3
  subst e1 e3
  refine ⟨A, c, by rw [List.length_take, Nat.min_eq_left hk], fun hn => ?_, fun x hx => h2 x (List.mem_of_mem_take hx)⟩
  rw [List.length_take] at hn
  obtain ⟨b, off, hA, hb, hc, hm, hat⟩ := h1 (by omega)
  refine ⟨b, off, hA, hb, by rw [List.length_take]; omega, hm, fun i hi => ?_⟩
  rw [List.length_take] at hi
  rw [List.getElem_take]
  exact hat i (by omega)
theorem EqV.capt {B : Nat} {w : World} {l : List Eqn} {A : Option Addr} {c : Nat} (h : EqV B w l (.slice A l.length c)) (h0 : 0 < l.length) : l.length ≤ c ∧ c ≤ 9223372036854775807 := by
  obtain ⟨A', c', hv, h1, _⟩ := h
  injection hv with e1 e2 e3
  subst e1 e3
  obtain ⟨_, _, _, _, hc, hm, _⟩ := h1 h0
  unfold maxLen at hm
  exact ⟨hc, by omega⟩
theorem EqV.lenle {B : Nat} {w : World} {l : List Eqn} {v : Value} (h : EqV B w l v) : l.length ≤ 9223372036854775807 := by
  obtain ⟨A, c, _, h1, _⟩ := h
  by_cases h0 : 0 < l.length
  · obtain ⟨_, _, _, _, h2, h3, _⟩ := h1 h0
    unfold maxLen at h3
    omega
  · omega
theorem noClash_nil : ¬ Clash [] [] := by
  rintro ⟨x, y, p, q, _, hp, _⟩
  simp at hp
theorem FirstIs.uniq {l : List Eqn} {i k : Nat} {e f : Int} (h : FirstIs l i e) (h' : FirstIs l k f) : i = k ∧ e = f := by
  have key : ∀ (i k : Nat) (x y : Eqn), i < k → l[i]? = some x → (∀ z ∈ l.take k, rtE z = true) → ¬ Clash (cls (l.take k)).1 (cls (l.take k)).2 → ((rtE x = false) ∨ Clash (cls (l.take (i + 1))).1 (cls (l.take (i + 1))).2) → False := by
    intro i k x y hik hx hr hn hc
    rcases hc with hc | hc
    · have : x ∈ l.take k := List.mem_of_getElem? (i := i) (by rw [List.getElem?_take_of_lt hik]; exact hx)
      rw [hr x this] at hc
      cases hc
    · refine hn ?_
      have e : l.take k = l.take (i + 1) ++ (l.take k).drop (i + 1) := by
        have := (List.take_append_drop (i + 1) (l.take k)).symm
        rwa [List.take_take, Nat.min_eq_left (by omega)] at this
      rw [e, cls_app]
      exact Clash.later (by obtain ⟨X, h1, _⟩ := (fold_pre ((l.take k).drop (i + 1)) (cls (l.take (i + 1)))).1; exact ⟨X, h1⟩) (fold_pre ((l.take k).drop (i + 1)) (cls (l.take (i + 1)))).2 hc
  have key2 : ∀ (i : Nat) (x : Eqn), l[i]? = some x → (∀ z ∈ l, rtE z = true) → ¬ Clash (cls l).1 (cls l).2 → ((rtE x = false) ∨ Clash (cls (l.take (i + 1))).1 (cls (l.take (i + 1))).2) → False := by
    intro i x hx hr hn hc
    have hi := (List.getElem?_eq_some_iff.1 hx).1
    refine key i l.length x x hi hx ?_ ?_ hc
    · rw [List.take_length]; exact hr
    · rw [List.take_length]; exact hn
  rcases h with ⟨x, hx, hr, hn, hc⟩ | ⟨rfl, rfl, hr, hn⟩
  · rcases h' with ⟨y, hy, hr', hn', hc'⟩ | ⟨rfl, rfl, hr', hn'⟩
    · have c1 : rtE x = false ∨ Clash (cls (l.take (i + 1))).1 (cls (l.take (i + 1))).2 := hc.imp (fun h => h.1) fun h => h.2.1
      have c2 : rtE y = false ∨ Clash (cls (l.take (k + 1))).1 (cls (l.take (k + 1))).2 := hc'.imp (fun h => h.1) fun h => h.2.1
      rcases Nat.lt_trichotomy i k with h | rfl | h
      · exact (key i k x x h hx hr' hn' c1).elim
      · rw [hx] at hy
        cases hy
        rcases hc with ⟨a1, rfl⟩ | ⟨a1, _, rfl⟩
        · rcases hc' with ⟨_, rfl⟩ | ⟨b1, _, _⟩
          · exact ⟨rfl, rfl⟩
          · rw [a1] at b1; cases b1
        · rcases hc' with ⟨b1, _⟩ | ⟨_, _, rfl⟩
          · rw [a1] at b1; cases b1
          · exact ⟨rfl, rfl⟩
      · exact (key k i y y h hy hr hn c2).elim
    · exact (key2 i x hx hr' hn' (hc.imp (fun h => h.1) fun h => h.2.1)).elim
  · rcases h' with ⟨y, hy, hr', hn', hc'⟩ | ⟨rfl, rfl, hr', hn'⟩
    · exact (key2 k y hy hr hn (hc'.imp (fun h => h.1) fun h => h.2.1)).elim
    · exact ⟨rfl, rfl⟩
set_option maxHeartbeats 4000000 in
theorem rfirst_any (w : World) (l : List Eqn) (v : Value) (h : EqV w.heap.size w l v) (hl : l.length ≤ 20) (hs : esz l ≤ 160) :
    Calls Try.prog 9 #[v] w fun e w' => ∃ (i : Nat) (r : Int), e = .returned (.tuple #[.int .i64 (i : Nat), .int .i64 r]) ∧ FirstIs l i r ∧ Below w.heap.size w w' := by
  obtain ⟨A, c, rfl⟩ := h.form
  have H := Lib.hid h
  clear h
  go_enter Try.func9, Try.ntmps9
  go_wp2_with fail
  go_loopw [4] (fun t wr => ∃ (j : Nat), t = .int .i64 (j : Nat) ∧ j ≤ l.length ∧ (∀ y ∈ l.take j, rtE y = true) ∧ ¬ Clash (cls (l.take j)).1 (cls (l.take j)).2 ∧ Below w.heap.size w wr) (fun t _ => l.length - (intOf t).toNat)
  case atStart => exact ⟨0, rfl, Nat.zero_le _, fun y hy => by simp at hy, noClash_nil, Below.refl _ _⟩
  case round =>
    obtain ⟨j, rfl, hj, hrt, hnc, hb⟩ := hrel
    have HB := Lib.hid (And.intro hrt (And.intro hnc hb))
    clear hrt hnc hb
    by_cases hjl : j < l.length
    · have f1 : decide ((j : Int) < (l.length : Int)) = true := decide_eq_true (by omega)
      obtain ⟨hcap, hcm⟩ := H.out.capt (by omega)
      obtain ⟨b, off, rfl, hat, hty⟩ := H.out.here HB.out.2.2 j hjl
      have hsz := size_of_esz (List.getElem_mem hjl)
      obtain ⟨x, hx⟩ : ∃ x, l[j] = x := ⟨_, rfl⟩
      rw [hx] at hat hty hsz
      obtain ⟨⟨k0, n0, ⟨u1, u2, u3⟩, F⟩, ⟨k1, n1, ⟨v1, v2, v3⟩, F'⟩, a0, a1⟩ := x
      obtain ⟨x0, x1, x2, x3, x4, x5, _, _⟩ := hat
      have hR := rright_any (F.size + 1) F k0 n0 (slv (u1, u2, u3)) wr (by omega) (by have h9 : F.size ≤ esz l := hsz.1; omega) hty.1
      obtain ⟨r1, hr1⟩ : ∃ z, (alone k0 n0 F.len && allAlone F.pre) = z := ⟨_, rfl⟩
      rw [hr1] at hR
      have HR := Lib.hid hR
      have HX := Lib.hid (And.intro hx (And.intro hsz hr1))
      dsimp only [slv, tyVal] at x0 x1 x2 x3 x4 x5 HR
      clear hx hsz hr1 hR hty x3 x4 x5
      go_wp2_with fail
      refine HR.out.mono ?_
      rintro e w2 ⟨rfl, hb2⟩
      have hb2' : Below w.heap.size w w2 := HB.out.2.2.trans (hb2.mono HB.out.2.2.size)
      have HB2 := Lib.hid hb2'
      clear HR x0 x1 x2 hb2
      cases r1 with
      | false =>
        have hrt : rtE l[j] = false := by rw [HX.out.1]; show (rt1 _ && rt1 _) = false; rw [show rt1 (k0, n0, (u1, u2, u3), F) = false from HX.out.2.2]; rfl
        have HQ := Lib.hid hrt
        clear hb2' hrt
        go_wp2_with fail
        go_ret2
        exact ⟨j, 1, rfl, .inl ⟨_, List.getElem?_eq_getElem hjl, HB.out.1, HB.out.2.1, .inl ⟨HQ.out, rfl⟩⟩, HB2.out⟩
      | true =>
        obtain ⟨_, _, e1, hat2, hty2⟩ := H.out.here hb2' j hjl
        cases e1
        rw [HX.out.1] at hat2 hty2
        obtain ⟨y0, y1, y2, y3, y4, y5, y6, y7⟩ := hat2
        have hR := rright_any (F'.size + 1) F' k1 n1 (slv (v1, v2, v3)) w2 (by omega) (by have h9 : F'.size ≤ esz l := HX.out.2.1.2; omega) hty2.2
        obtain ⟨r2, hr2⟩ : ∃ z, (alone k1 n1 F'.len && allAlone F'.pre) = z := ⟨_, rfl⟩
        rw [hr2] at hR
        have HR := Lib.hid hR
        have HX2 := Lib.hid hr2
        dsimp only [slv, tyVal] at y0 y1 y2 y3 y4 y5 y6 y7 HR
        have y4' : w2.cell? ⟨b, off + j * 8 + 3 + 1, none⟩ = some (.int .i64 n1) := y4
        have y5' : w2.cell? ⟨b, off + j * 8 + 3 + 2, none⟩ = some (.slice v1 v2 v3) := y5
        clear hty2 hr2 hR hb2' y0 y1 y2 y6 y7
        go_wp2_with fail
        refine HR.out.mono ?_
        rintro e w3 ⟨rfl, hb3⟩
        have hb3' : Below w.heap.size w w3 := HB2.out.trans (hb3.mono HB2.out.size)
        have HB3 := Lib.hid hb3'
        clear HR y3 y4 y5 y4' y5' hb3
        cases r2 with
        | false =>
          have hrt : rtE l[j] = false := by rw [HX.out.1]; show (rt1 _ && rt1 _) = false; rw [show rt1 (k1, n1, (v1, v2, v3), F') = false from HX2.out]; simp
          have HQ := Lib.hid hrt
          clear hb3' hrt
          go_wp2_with fail
          go_ret2
          exact ⟨j, 1, rfl, .inl ⟨_, List.getElem?_eq_getElem hjl, HB.out.1, HB.out.2.1, .inl ⟨HQ.out, rfl⟩⟩, HB3.out⟩
        | true =>
          have hrt : rtE l[j] = true := by rw [HX.out.1]; show (rt1 _ && rt1 _) = true; rw [show rt1 (k0, n0, (u1, u2, u3), F) = true from HX.out.2.2, show rt1 (k1, n1, (v1, v2, v3), F') = true from HX2.out]; rfl
          have hrts : ∀ y ∈ l.take (j + 1), rtE y = true := fun y hy => by
            rw [List.take_add_one, List.getElem?_eq_getElem hjl] at hy
            rcases List.mem_append.1 hy with hy | hy
            · exact HB.out.1 y hy
            · simp only [Option.toList_some, List.mem_singleton] at hy
              rw [hy]; exact hrt
          have HCL := Lib.hid (close_any w3 (l.take (j + 1)) (.slice (some ⟨b, off, none⟩) (j + 1) c) ((H.out.later hb3').upto (j + 1) (by omega)) hrts (by rw [List.length_take]; omega) (by have := esz_take l (j + 1); omega))
          have HQ := Lib.hid (And.intro hrt hrts)
          clear hb3' hrt hrts
          have i1 : (j : Int) + 1 ≤ (c : Int) := by omega
          have i2 : ((j : Int) + 1).toNat = j + 1 := by omega
          have I2 := Lib.hid i2
          clear i2
          go_wp2_with fail
          refine HCL.out.mono ?_
          rintro e w4 ⟨vm, vs, M, cc, rfl, hR4, hs4, hrc, hec, hcl, hb4⟩
          have hb4' : Below w.heap.size w w4 := HB3.out.trans (hb4.mono HB3.out.size)
          have h0 : 0 < (cls (l.take (j + 1))).1.length := by
            have h9 := cls_len2 (l.take (j + 1))
            rw [List.length_take] at h9
            obtain ⟨⟨a, b⟩, hab⟩ := List.exists_mem_of_length_pos (show 0 < (cls (l.take (j + 1))).2.length by omega)
            have := (hec a b hab).1
            omega
          have h1 : (cls (l.take (j + 1))).1.length ≤ 1000000 := by have := cls_len (l.take (j + 1)); have := esz_take l (j + 1); omega
          have HCS := Lib.hid (clash_rc _ _ w3.heap.size w4 vm vs M _ _ cc hR4 hs4 h1 h0 hrc hec hcl)
          have HB4 := Lib.hid hb4'
          clear HCL hR4 hs4 hrc hec hcl hb4 hb4' h0 h1
          go_wp2_with fail
          refine HCS.out.mono ?_
          rintro e w5 ⟨bb, rfl, hbb, hb5⟩
          have HB5 := Lib.hid (HB4.out.trans (hb5.mono HB4.out.size))
          clear HCS hb5
          cases bb with
          | true =>
            have HBB := Lib.hid (hbb.1 rfl)
            clear hbb
            go_wp2_with fail
            go_ret2
            exact ⟨j, 7, rfl, .inl ⟨_, List.getElem?_eq_getElem hjl, HB.out.1, HB.out.2.1, .inr ⟨HQ.out.1, HBB.out, rfl⟩⟩, HB5.out⟩
          | false =>
            have HBB := Lib.hid (fun h => absurd (hbb.2 h) (by decide) : ¬ Clash (cls (l.take (j + 1))).1 (cls (l.take (j + 1))).2)
            clear hbb
            go_wp2_with fail
            refine ⟨⟨j + 1, congrArg (Value.int .i64) (by omega), by omega, HQ.out.2, HBB.out, HB5.out⟩, ?_⟩
            show l.length - (intOf (.int .i64 ((j : Int) + 1))).toNat < l.length - (intOf (.int .i64 (j : Nat))).toNat
            simp only [intOf]
            omega
    · have f1 : decide ((j : Int) < (l.length : Int)) = false := decide_eq_false (by omega)
      have hjj : j = l.length := by omega
      have HJ := Lib.hid hjj
      clear hjj
      go_wp2_with fail
      go_ret2
      obtain ⟨hrt, hnc, hb⟩ := HB.out
      rw [HJ.out, List.take_length] at hrt hnc
      exact ⟨0, 0, rfl, .inr ⟨rfl, rfl, hrt, hnc⟩, hb⟩
set_option maxHeartbeats 4000000 in
theorem ufirst_law (w : World) (l : List Eqn) (v : Value) (hl : ArgE w v l) :
    Calls Try.prog 3 #[v] w fun e w' => e = .returned (.bool true) ∧ Below w.heap.size w w' := by
  have HG1 := Lib.hid (great12_any w l v hl.1 hl.1.lenle)
  have HL := Lib.hid hl
  have HAW := Lib.hid awake12
  obtain ⟨Al, cl, rfl⟩ := hl.1.form
  clear hl
  go_enter Try.func3, Try.ntmps3
  go_wp2_with fail
  refine HG1.out.mono ?_
  clear HG1
  rintro e w1 ⟨g1, rfl, hg1, hb1⟩
  have HB1 := Lib.hid hb1
  cases g1 with
  | true =>
    clear hg1 hb1
    go_wp2_with fail
    refine (HAW.out w1).mono ?_
    rintro e w2 ⟨rfl, hb2⟩
    have HB2 := Lib.hid (HB1.out.trans (hb2.mono HB1.out.size))
    clear hb2
    go_wp2_with fail
    go_ret
    exact ⟨rfl, HB2.out⟩
  | false =>
    have hl1 := hg1 rfl
    have HF := Lib.hid (first_any w1 l (.slice Al l.length cl) (HL.out.1.later hb1) HL.out.2 hl1.1 hl1.2)
    have HL1 := Lib.hid hl1
    clear hg1 hb1 hl1
    go_wp2_with fail
    refine HF.out.mono ?_
    clear HF
    rintro e w2 ⟨i, r, rfl, hf, hb2⟩
    have HB2 := Lib.hid (HB1.out.trans (hb2.mono HB1.out.size))
    have HRF := Lib.hid (rfirst_any w2 l (.slice Al l.length cl) (HL.out.1.later HB2.out) HL1.out.1 HL1.out.2)
    have HF := Lib.hid hf
    clear hf hb2
    go_wp2_with fail
    refine HRF.out.mono ?_
    clear HRF
    rintro e w3 ⟨k, s, rfl, hf, hb3⟩
    have HB3 := Lib.hid (HB2.out.trans (hb3.mono HB2.out.size))
    obtain ⟨rfl, rfl⟩ := HF.out.uniq hf
    clear hf hb3
    have t1 : ((i : Int) == (i : Int)) = true := by simp
    have t2 : ((r : Int) == (r : Int)) = true := by simp
    go_wp2_with fail
    refine (HAW.out w3).mono ?_
    rintro e w4 ⟨rfl, hb4⟩
    have HB4 := Lib.hid (HB3.out.trans (hb4.mono HB3.out.size))
    clear hb4
    go_wp2_with fail
    go_ret
    exact ⟨rfl, HB4.out⟩
end Go.Proofs.Ytbnpmeaaaecciaa
