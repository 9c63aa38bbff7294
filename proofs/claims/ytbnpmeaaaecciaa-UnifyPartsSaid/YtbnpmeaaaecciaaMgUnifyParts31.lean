/- Texts of one proof, one behind the other. -/
import Derived.Test.YtbnpmeaaaecciaaMgUnifyParts27
import Derived.Test.YtbnpmeaaaecciaaMgUnifyParts29
import Derived.Test.YtbnpmeaaaecciaaMgUnifyParts21
import Derived.Test.YtbnpmeaaaecciaaMgUnifyParts18
import Derived.IntWalk
/- UnifyFirst, walked. -/
namespace Go.Proofs.Ytbnpmeaaaecciaa
open Go.RowKit
open Un (rowI)
set_option maxRecDepth 100000
theorem EqV.upto {B : Nat} {w : World} {l : List Eqn} {A : Option Addr} {c : Nat} (h : EqV B w l (.slice A l.length c)) (k : Nat) (hk : k ≤ l.length) : EqV B w (l.take k) (.slice A k c) := by
  obtain ⟨A', c', hv, h1, h2⟩ := h
  injection hv with e1 e2 e3
  subst e1 e3
  refine ⟨A, c, by rw [List.length_take, Nat.min_eq_left hk], fun hn => ?_, fun x hx => h2 x (List.mem_of_mem_take hx)⟩
  rw [List.length_take] at hn
  obtain ⟨b, off, hA, hb, hc, hm, hat⟩ := h1 (by omega)
  refine ⟨b, off, hA, hb, by rw [List.length_take]; omega, hm, fun i hi => ?_⟩
  rw [List.length_take] at hi
  rw [List.getElem_take]
  exact hat i (by omega)
theorem EqV.capt {B : Nat} {w : World} {l : List Eqn} {A : Option Addr} {c : Nat} (h : EqV B w l (.slice A l.length c)) (h0 : 0 < l.length) : l.length ≤ c ∧ c ≤ 9223372036854775807 := by
  obtain ⟨A', c', hv, h1, _⟩ := h
  injection hv with e1 e2 e3
  subst e1 e3
  obtain ⟨_, _, _, _, hc, hm, _⟩ := h1 h0
  unfold maxLen at hm
  exact ⟨hc, by omega⟩
theorem EqV.lenle {B : Nat} {w : World} {l : List Eqn} {v : Value} (h : EqV B w l v) : l.length ≤ 9223372036854775807 := by
  obtain ⟨A, c, _, h1, _⟩ := h
  by_cases h0 : 0 < l.length
  · obtain ⟨_, _, _, _, h2, h3, _⟩ := h1 h0
    unfold maxLen at h3
    omega
  · omega
theorem noClash_nil : ¬ Clash [] [] := by
  rintro ⟨x, y, p, q, _, hp, _⟩
  simp at hp
theorem FirstIs.uniq {l : List Eqn} {i k : Nat} {e f : Int} (h : FirstIs l i e) (h' : FirstIs l k f) : i = k ∧ e = f := by
  have key : ∀ (i k : Nat) (x y : Eqn), i < k → l[i]? = some x → (∀ z ∈ l.take k, rtE z = true) → ¬ Clash (cls (l.take k)).1 (cls (l.take k)).2 → ((rtE x = false) ∨ Clash (cls (l.take (i + 1))).1 (cls (l.take (i + 1))).2) → False := by
    intro i k x y hik hx hr hn hc
    rcases hc with hc | hc
    · have : x ∈ l.take k := List.mem_of_getElem? (i := i) (by rw [List.getElem?_take_of_lt hik]; exact hx)
      rw [hr x this] at hc
      cases hc
    · refine hn ?_
      have e : l.take k = l.take (i + 1) ++ (l.take k).drop (i + 1) := by
        have := (List.take_append_drop (i + 1) (l.take k)).symm
        rwa [List.take_take, Nat.min_eq_left (by omega)] at this
      rw [e, cls_app]
      exact Clash.later (by obtain ⟨X, h1, _⟩ := (fold_pre ((l.take k).drop (i + 1)) (cls (l.take (i + 1)))).1; exact ⟨X, h1⟩) (fold_pre ((l.take k).drop (i + 1)) (cls (l.take (i + 1)))).2 hc
  have key2 : ∀ (i : Nat) (x : Eqn), l[i]? = some x → (∀ z ∈ l, rtE z = true) → ¬ Clash (cls l).1 (cls l).2 → ((rtE x = false) ∨ Clash (cls (l.take (i + 1))).1 (cls (l.take (i + 1))).2) → False := by
    intro i x hx hr hn hc
    have hi := (List.getElem?_eq_some_iff.1 hx).1
    refine key i l.length x x hi hx ?_ ?_ hc
    · rw [List.take_length]; exact hr
    · rw [List.take_length]; exact hn
  rcases h with ⟨x, hx, hr, hn, hc⟩ | ⟨rfl, rfl, hr, hn⟩
  · rcases h' with ⟨y, hy, hr', hn', hc'⟩ | ⟨rfl, rfl, hr', hn'⟩
    · have c1 : rtE x = false ∨ Clash (cls (l.take (i + 1))).1 (cls (l.take (i + 1))).2 := hc.imp (fun h => h.1) fun h => h.2.1
      have c2 : rtE y = false ∨ Clash (cls (l.take (k + 1))).1 (cls (l.take (k + 1))).2 := hc'.imp (fun h => h.1) fun h => h.2.1
      rcases Nat.lt_trichotomy i k with h | rfl | h
      · exact (key i k x x h hx hr' hn' c1).elim
      · rw [hx] at hy
        cases hy
        rcases hc with ⟨a1, rfl⟩ | ⟨a1, _, rfl⟩
        · rcases hc' with ⟨_, rfl⟩ | ⟨b1, _, _⟩
          · exact ⟨rfl, rfl⟩
          · rw [a1] at b1; cases b1
        · rcases hc' with ⟨b1, _⟩ | ⟨_, _, rfl⟩
          · rw [a1] at b1; cases b1
          · exact ⟨rfl, rfl⟩
      · exact (key k i y y h hy hr hn c2).elim
    · exact (key2 i x hx hr' hn' (hc.imp (fun h => h.1) fun h => h.2.1)).elim
  · rcases h' with ⟨y, hy, hr', hn', hc'⟩ | ⟨rfl, rfl, hr', hn'⟩
    · exact (key2 k y hy hr hn (hc'.imp (fun h => h.1) fun h => h.2.1)).elim
    · exact ⟨rfl, rfl⟩
set_option maxHeartbeats 4000000 in
theorem rfirst_any (w : World) (l : List Eqn) (v : Value) (h : EqV w.heap.size w l v) (hl : l.length ≤ 20) (hs : esz l ≤ 160) :
    Calls Try.prog 9 #[v] w fun e w' => ∃ (i : Nat) (r : Int), e = .returned (.tuple #[.int .i64 (i : Nat), .int .i64 r]) ∧ FirstIs l i r ∧ Below w.heap.size w w' := by
  obtain ⟨A, c, rfl⟩ := h.form
  have H := Lib.hid h
  clear h
  go_enter Try.func9, Try.ntmps9
  go_wp2_with fail
  go_loopw [4] (fun t wr => ∃ (j : Nat), t = .int .i64 (j : Nat) ∧ j ≤ l.length ∧ (∀ y ∈ l.take j, rtE y = true) ∧ ¬ Clash (cls (l.take j)).1 (cls (l.take j)).2 ∧ Below w.heap.size w wr) (fun t _ => l.length - (intOf t).toNat)
  case atStart => exact ⟨0, rfl, Nat.zero_le _, fun y hy => by simp at hy, noClash_nil, Below.refl _ _⟩
  case round =>
    obtain ⟨j, rfl, hj, hrt, hnc, hb⟩ := hrel
    have HB := Lib.hid (And.intro hrt (And.intro hnc hb))
    clear hrt hnc hb
    by_cases hjl : j < l.length
    · have f1 : decide ((j : Int) < (l.length : Int)) = true := decide_eq_true (by omega)
      obtain ⟨hcap, hcm⟩ := H.out.capt (by omega)
      obtain ⟨b, off, rfl, hat, hty⟩ := H.out.here HB.out.2.2 j hjl
      have hsz := size_of_esz (List.getElem_mem hjl)
      obtain ⟨x, hx⟩ : ∃ x, l[j] = x := ⟨_, rfl⟩
      rw [hx] at hat hty hsz
      obtain ⟨⟨k0, n0, ⟨u1, u2, u3⟩, F⟩, ⟨k1, n1, ⟨v1, v2, v3⟩, F'⟩, a0, a1⟩ := x
      obtain ⟨x0, x1, x2, x3, x4, x5, _, _⟩ := hat
      have hR := rright_any (F.size + 1) F k0 n0 (slv (u1, u2, u3)) wr (by omega) (by have h9 : F.size ≤ esz l := hsz.1; omega) hty.1
      obtain ⟨r1, hr1⟩ : ∃ z, (alone k0 n0 F.len && allAlone F.pre) = z := ⟨_, rfl⟩
      rw [hr1] at hR
      have HR := Lib.hid hR
      have HX := Lib.hid (And.intro hx (And.intro hsz hr1))
      dsimp only [slv, tyVal] at x0 x1 x2 x3 x4 x5 HR
      clear hx hsz hr1 hR hty x3 x4 x5
      go_wp2_with fail
      refine HR.out.mono ?_
      rintro e w2 ⟨rfl, hb2⟩
      have hb2' : Below w.heap.size w w2 := HB.out.2.2.trans (hb2.mono HB.out.2.2.size)
      have HB2 := Lib.hid hb2'
      clear HR x0 x1 x2 hb2
      cases r1 with
      | false =>
        have hrt : rtE l[j] = false := by rw [HX.out.1]; show (rt1 _ && rt1 _) = false; rw [show rt1 (k0, n0, (u1, u2, u3), F) = false from HX.out.2.2]; rfl
        have HQ := Lib.hid hrt
        clear hb2' hrt
        go_wp2_with fail
        go_ret2
        exact ⟨j, 1, rfl, .inl ⟨_, List.getElem?_eq_getElem hjl, HB.out.1, HB.out.2.1, .inl ⟨HQ.out, rfl⟩⟩, HB2.out⟩
      | true =>
        obtain ⟨_, _, e1, hat2, hty2⟩ := H.out.here hb2' j hjl
        cases e1
        rw [HX.out.1] at hat2 hty2
        obtain ⟨y0, y1, y2, y3, y4, y5, y6, y7⟩ := hat2
        have hR := rright_any (F'.size + 1) F' k1 n1 (slv (v1, v2, v3)) w2 (by omega) (by have h9 : F'.size ≤ esz l := HX.out.2.1.2; omega) hty2.2
        obtain ⟨r2, hr2⟩ : ∃ z, (alone k1 n1 F'.len && allAlone F'.pre) = z := ⟨_, rfl⟩
        rw [hr2] at hR
        have HR := Lib.hid hR
        have HX2 := Lib.hid hr2
        dsimp only [slv, tyVal] at y0 y1 y2 y3 y4 y5 y6 y7 HR
        have y4' : w2.cell? ⟨b, off + j * 8 + 3 + 1, none⟩ = some (.int .i64 n1) := y4
        have y5' : w2.cell? ⟨b, off + j * 8 + 3 + 2, none⟩ = some (.slice v1 v2 v3) := y5
        clear hty2 hr2 hR hb2' y0 y1 y2 y6 y7
        go_wp2_with fail
        refine HR.out.mono ?_
        rintro e w3 ⟨rfl, hb3⟩
        have hb3' : Below w.heap.size w w3 := HB2.out.trans (hb3.mono HB2.out.size)
        have HB3 := Lib.hid hb3'
        clear HR y3 y4 y5 y4' y5' hb3
        cases r2 with
        | false =>
          have hrt : rtE l[j] = false := by rw [HX.out.1]; show (rt1 _ && rt1 _) = false; rw [show rt1 (k1, n1, (v1, v2, v3), F') = false from HX2.out]; simp
          have HQ := Lib.hid hrt
          clear hb3' hrt
          go_wp2_with fail
          go_ret2
          exact ⟨j, 1, rfl, .inl ⟨_, List.getElem?_eq_getElem hjl, HB.out.1, HB.out.2.1, .inl ⟨HQ.out, rfl⟩⟩, HB3.out⟩
        | true =>
          have hrt : rtE l[j] = true := by rw [HX.out.1]; show (rt1 _ && rt1 _) = true; rw [show rt1 (k0, n0, (u1, u2, u3), F) = true from HX.out.2.2, show rt1 (k1, n1, (v1, v2, v3), F') = true from HX2.out]; rfl
          have hrts : ∀ y ∈ l.take (j + 1), rtE y = true := fun y hy => by
            rw [List.take_add_one, List.getElem?_eq_getElem hjl] at hy
            rcases List.mem_append.1 hy with hy | hy
            · exact HB.out.1 y hy
            · simp only [Option.toList_some, List.mem_singleton] at hy
              rw [hy]; exact hrt
          have HCL := Lib.hid (close_any w3 (l.take (j + 1)) (.slice (some ⟨b, off, none⟩) (j + 1) c) ((H.out.later hb3').upto (j + 1) (by omega)) hrts (by rw [List.length_take]; omega) (by have := esz_take l (j + 1); omega))
          have HQ := Lib.hid (And.intro hrt hrts)
          clear hb3' hrt hrts
          have i1 : (j : Int) + 1 ≤ (c : Int) := by omega
          have i2 : ((j : Int) + 1).toNat = j + 1 := by omega
          have I2 := Lib.hid i2
          clear i2
          go_wp2_with fail
          refine HCL.out.mono ?_
          rintro e w4 ⟨vm, vs, M, cc, rfl, hR4, hs4, hrc, hec, hcl, hb4⟩
          have hb4' : Below w.heap.size w w4 := HB3.out.trans (hb4.mono HB3.out.size)
          have h0 : 0 < (cls (l.take (j + 1))).1.length := by
            have h9 := cls_len2 (l.take (j + 1))
            rw [List.length_take] at h9
            obtain ⟨⟨a, b⟩, hab⟩ := List.exists_mem_of_length_pos (show 0 < (cls (l.take (j + 1))).2.length by omega)
            have := (hec a b hab).1
            omega
          have h1 : (cls (l.take (j + 1))).1.length ≤ 1000000 := by have := cls_len (l.take (j + 1)); have := esz_take l (j + 1); omega
          have HCS := Lib.hid (clash_rc _ _ w3.heap.size w4 vm vs M _ _ cc hR4 hs4 h1 h0 hrc hec hcl)
          have HB4 := Lib.hid hb4'
          clear HCL hR4 hs4 hrc hec hcl hb4 hb4' h0 h1
          go_wp2_with fail
          refine HCS.out.mono ?_
          rintro e w5 ⟨bb, rfl, hbb, hb5⟩
          have HB5 := Lib.hid (HB4.out.trans (hb5.mono HB4.out.size))
          clear HCS hb5
          cases bb with
          | true =>
            have HBB := Lib.hid (hbb.1 rfl)
            clear hbb
            go_wp2_with fail
            go_ret2
            exact ⟨j, 7, rfl, .inl ⟨_, List.getElem?_eq_getElem hjl, HB.out.1, HB.out.2.1, .inr ⟨HQ.out.1, HBB.out, rfl⟩⟩, HB5.out⟩
          | false =>
            have HBB := Lib.hid (fun h => absurd (hbb.2 h) (by decide) : ¬ Clash (cls (l.take (j + 1))).1 (cls (l.take (j + 1))).2)
            clear hbb
            go_wp2_with fail
            refine ⟨⟨j + 1, congrArg (Value.int .i64) (by omega), by omega, HQ.out.2, HBB.out, HB5.out⟩, ?_⟩
            show l.length - (intOf (.int .i64 ((j : Int) + 1))).toNat < l.length - (intOf (.int .i64 (j : Nat))).toNat
            simp only [intOf]
            omega
    · have f1 : decide ((j : Int) < (l.length : Int)) = false := decide_eq_false (by omega)
      have hjj : j = l.length := by omega
      have HJ := Lib.hid hjj
      clear hjj
      go_wp2_with fail
      go_ret2
      obtain ⟨hrt, hnc, hb⟩ := HB.out
      rw [HJ.out, List.take_length] at hrt hnc
      exact ⟨0, 0, rfl, .inr ⟨rfl, rfl, hrt, hnc⟩, hb⟩
set_option maxHeartbeats 4000000 in
theorem ufirst_law (w : World) (l : List Eqn) (v : Value) (hl : ArgE w v l) :
    Calls Try.prog 3 #[v] w fun e w' => e = .returned (.bool true) ∧ Below w.heap.size w w' := by
  have HG1 := Lib.hid (great12_any w l v hl.1 hl.1.lenle)
  have HL := Lib.hid hl
  have HAW := Lib.hid awake12
  obtain ⟨Al, cl, rfl⟩ := hl.1.form
  clear hl
  go_enter Try.func3, Try.ntmps3
  go_wp2_with fail
  refine HG1.out.mono ?_
  clear HG1
  rintro e w1 ⟨g1, rfl, hg1, hb1⟩
  have HB1 := Lib.hid hb1
  cases g1 with
  | true =>
    clear hg1 hb1
    go_wp2_with fail
    refine (HAW.out w1).mono ?_
    rintro e w2 ⟨rfl, hb2⟩
    have HB2 := Lib.hid (HB1.out.trans (hb2.mono HB1.out.size))
    clear hb2
    go_wp2_with fail
    go_ret
    exact ⟨rfl, HB2.out⟩
  | false =>
    have hl1 := hg1 rfl
    have HF := Lib.hid (first_any w1 l (.slice Al l.length cl) (HL.out.1.later hb1) HL.out.2 hl1.1 hl1.2)
    have HL1 := Lib.hid hl1
    clear hg1 hb1 hl1
    go_wp2_with fail
    refine HF.out.mono ?_
    clear HF
    rintro e w2 ⟨i, r, rfl, hf, hb2⟩
    have HB2 := Lib.hid (HB1.out.trans (hb2.mono HB1.out.size))
    have HRF := Lib.hid (rfirst_any w2 l (.slice Al l.length cl) (HL.out.1.later HB2.out) HL1.out.1 HL1.out.2)
    have HF := Lib.hid hf
    clear hf hb2
    go_wp2_with fail
    refine HRF.out.mono ?_
    clear HRF
    rintro e w3 ⟨k, s, rfl, hf, hb3⟩
    have HB3 := Lib.hid (HB2.out.trans (hb3.mono HB2.out.size))
    obtain ⟨rfl, rfl⟩ := HF.out.uniq hf
    clear hf hb3
    have t1 : ((i : Int) == (i : Int)) = true := by simp
    have t2 : ((r : Int) == (r : Int)) = true := by simp
    go_wp2_with fail
    refine (HAW.out w3).mono ?_
    rintro e w4 ⟨rfl, hb4⟩
    have HB4 := Lib.hid (HB3.out.trans (hb4.mono HB3.out.size))
    clear hb4
    go_wp2_with fail
    go_ret
    exact ⟨rfl, HB4.out⟩
end Go.Proofs.Ytbnpmeaaaecciaa
/- Equations in whatever order, with sides changed about, and however often: the classes are the same. Nothing here speaks of the program. -/
namespace Go.Proofs.Ytbnpmeaaaecciaa
/-- Nodes that stand for types. -/
def RepL (H : List Gn) : Fo → List Nat → Prop
  | .nil, P => P = []
  | .cons k n _ ps r, P => ∃ j P', P = j :: P' ∧ (∃ s Q, H[j]? = some (k, n, s, Q) ∧ RepL H ps Q) ∧ RepL H r P'
theorem RepL.later {H X : List Gn} {F : Fo} : ∀ {P : List Nat}, RepL H F P → RepL (H ++ X) F P := by
  induction F with
  | nil => intro P h; exact h
  | cons k n u ps r i1 i2 =>
    rintro P ⟨j, P', rfl, ⟨s, Q, h1, h2⟩, h3⟩
    exact ⟨j, P', rfl, ⟨s, Q, app_get h1, i1 h2⟩, i2 h3⟩
/-- Variables have no parts. -/
def GV (G : List Gn) : Prop := ∀ p ∈ G, p.1 = 1 → p.2.2.2 = []
theorem gnode_GV {G : List Gn} {k n : Int} {P : List Nat} (h : GV G) (hk : k = 1 → P = []) : GV (gnode G k n P).1 := by
  unfold gnode
  split
  · exact h
  · intro p hp p1
    rcases List.mem_append.1 hp with hp | hp
    · exact h p hp p1
    · simp only [List.mem_cons, List.not_mem_nil, or_false] at hp
      subst hp
      exact hk p1
/-- What stays true of the nodes while right types are added. -/
structure Gok (G : List Gn) : Prop where
  gi : GI G
  gp : Gp G
  gn : GN G
  gv : GV G
theorem Gok.nil : Gok [] := ⟨fun _ h => (by cases h), fun _ h => (by cases h), ⟨by simp [names], fun n hn => by simp [names] at hn⟩, fun _ h => (by cases h)⟩
/-- A type that may be added. -/
structure Fok (F : Fo) : Prop where
  vok : Vok F
  alp : AlP F
  wf : F.wf
theorem Fok.parts {k n : Int} {u : Sl} {ps r : Fo} (h : Fok (.cons k n u ps r)) : Fok ps := ⟨h.vok.2.1, h.alp.2.1, h.wf.2.1⟩
theorem Fok.rest {k n : Int} {u : Sl} {ps r : Fo} (h : Fok (.cons k n u ps r)) : Fok r := ⟨h.vok.2.2, h.alp.2.2, h.wf.2.2⟩
theorem gnode_ok2 {G : List Gn} {k n : Int} {P : List Nat} (h : Gok G) (hk : k = 1 → P = []) (h8 : P.length ≤ 8) (hlt : ∀ u ∈ P, u < G.length) (hw : (Lit.int .i64 n).wf = true) : Gok (gnode G k n P).1 :=
  ⟨(gnode_ok G k n P h.gi hk).2.1, gnode_gp h.gp h8 hlt, gnode_GN h.gn hw, gnode_GV h.gv hk⟩
/-- Types are added: their nodes stand for them. -/
theorem gadd_rep (F : Fo) : ∀ G, Gok G → Fok F → Gok (gadd G F).1 ∧ RepL (gadd G F).1 F (gadd G F).2 ∧ ∀ p ∈ (gadd G F).2, p < (gadd G F).1.length := by
  induction F with
  | nil => intro G h _; rw [gadd_nil]; exact ⟨h, rfl, fun p hp => by cases hp⟩
  | cons k n u ps r i1 i2 =>
    intro G hG hF
    obtain ⟨g1, r1, l1⟩ := i1 G hG hF.parts
    have hk : k = 1 → (gadd G ps).2 = [] := fun h => by rw [hF.vok.1 h, gadd_nil]
    have h8 : (gadd G ps).2.length ≤ 8 := by rw [gadd_len]; exact alone_le hF.alp.1
    have g2 := gnode_ok2 (k := k) (n := n) g1 hk h8 l1 hF.wf.1
    have hlt := (gnode_ok (gadd G ps).1 k n (gadd G ps).2 g1.gi hk).2.2.1
    have hat : ∃ s Q, (gnode (gadd G ps).1 k n (gadd G ps).2).1[(gnode (gadd G ps).1 k n (gadd G ps).2).2]? = some (k, n, s, Q) ∧ RepL (gnode (gadd G ps).1 k n (gadd G ps).2).1 ps Q := by
      unfold gnode
      split
      · rename_i i hi
        split at hi
        · rename_i h1
          obtain ⟨x, hx, x1, x2⟩ := gvar_at hi
          have hq := g1.gv x (List.mem_of_getElem? hx) x1
          obtain ⟨a, b, c, d⟩ := x
          dsimp only at x1 x2 hq
          subst x1 x2 hq
          refine ⟨c, [], by rw [hx, h1], ?_⟩
          rw [hF.vok.1 h1]
          rfl
        · cases hi
      · exact ⟨1 + gsum (gadd G ps).1 (gadd G ps).2, (gadd G ps).2, by simp, r1.later⟩
    rw [← gadd1_eq] at g2 hat hlt
    obtain ⟨g3, r3, l3⟩ := i2 (gadd1 G k n ps).1 g2 hF.rest
    obtain ⟨X, hX, _⟩ := gadd_pre r (gadd1 G k n ps).1
    rw [gadd_cons]
    refine ⟨g3, ⟨_, _, rfl, ?_, r3⟩, fun p hp => ?_⟩
    · obtain ⟨s, Q, h1, h2⟩ := hat
      refine ⟨s, Q, ?_, ?_⟩
      · show (gadd (gadd1 G k n ps).1 r).1[_]? = _
        rw [hX]; exact app_get h1
      · show RepL (gadd (gadd1 G k n ps).1 r).1 ps Q
        rw [hX]; exact h2.later
    · rcases List.mem_cons.1 hp with rfl | hp
      · show _ < (gadd (gadd1 G k n ps).1 r).1.length
        rw [hX, List.length_append]; omega
      · exact l3 p hp
/-- The one graph's nodes among the other one's. -/
def Hm (G H : List Gn) (φ : Nat → Nat) : Prop := ∀ (i : Nat) (p : Gn), G[i]? = some p → ∃ s, H[φ i]? = some (p.1, p.2.1, s, p.2.2.2.map φ)
theorem hm_add (H : List Gn) (hH : GN H) (F : Fo) : ∀ (G : List Gn) (φ : Nat → Nat) (P : List Nat), Gok G → Fok F → Hm G H φ → RepL H F P → ∃ φ', (∀ i, i < G.length → φ' i = φ i) ∧ Hm (gadd G F).1 H φ' ∧ (gadd G F).2.map φ' = P := by
  induction F with
  | nil =>
    intro G φ P _ _ h hP
    rw [gadd_nil]
    exact ⟨φ, fun _ _ => rfl, h, by rw [show P = [] from hP]; rfl⟩
  | cons k n u ps r i1 i2 =>
    rintro G φ P hG hF h ⟨j, P', rfl, ⟨s, Q, hj, hQ⟩, hP'⟩
    obtain ⟨φ1, e1, h1, m1⟩ := i1 G φ Q hG hF.parts h hQ
    obtain ⟨g1, r1, l1⟩ := gadd_rep ps G hG hF.parts
    have hk : k = 1 → (gadd G ps).2 = [] := fun h => by rw [hF.vok.1 h, gadd_nil]
    have h8 : (gadd G ps).2.length ≤ 8 := by rw [gadd_len]; exact alone_le hF.alp.1
    have g2 := gnode_ok2 (k := k) (n := n) g1 hk h8 l1 hF.wf.1
    have hlt := (gnode_ok (gadd G ps).1 k n (gadd G ps).2 g1.gi hk).2.2.1
    obtain ⟨X1, hX1, _⟩ := gadd_pre ps G
    have hGl : G.length ≤ (gadd G ps).1.length := by rw [hX1, List.length_append]; omega
    have key : ∃ φ2, (∀ i, i < (gadd G ps).1.length → φ2 i = φ1 i) ∧ Hm (gnode (gadd G ps).1 k n (gadd G ps).2).1 H φ2 ∧ φ2 (gnode (gadd G ps).1 k n (gadd G ps).2).2 = j := by
      unfold gnode
      split
      · rename_i i hi
        split at hi
        · rename_i hk1
          obtain ⟨x, hx, x1, x2⟩ := gvar_at hi
          obtain ⟨s', hs'⟩ := h1 i x hx
          rw [x1, x2] at hs'
          have e1 := gvar_node hH hs' rfl
          rw [hk1] at hj
          have e2 := gvar_node hH hj rfl
          refine ⟨φ1, fun _ _ => rfl, h1, ?_⟩
          rw [e1] at e2
          exact Option.some.inj e2
        · cases hi
      · refine ⟨fun x => if x = (gadd G ps).1.length then j else φ1 x, fun i hi => if_neg (by omega), fun i p hp => ?_, if_pos rfl⟩
        have hmap : ∀ L : List Nat, (∀ u ∈ L, u < (gadd G ps).1.length) → L.map (fun x => if x = (gadd G ps).1.length then j else φ1 x) = L.map φ1 := fun L hL => List.map_congr_left fun u hu => if_neg (by have := hL u hu; omega)
        by_cases hil : i < (gadd G ps).1.length
        · have hp' := get_before hil hp
          obtain ⟨s', hs'⟩ := h1 i p hp'
          refine ⟨s', ?_⟩
          dsimp only
          rw [if_neg (by omega), hmap _ (g1.gp p (List.mem_of_getElem? hp')).2]
          exact hs'
        · have hie : i = (gadd G ps).1.length := by
            have := lt_of_get hp
            simp at this
            omega
          subst hie
          simp at hp
          subst hp
          refine ⟨s, ?_⟩
          dsimp only
          rw [if_pos rfl]
          rw [hmap _ l1, m1]
          exact hj
    obtain ⟨φ2, e2, h2, m2⟩ := key
    rw [← gadd1_eq] at g2 hlt h2 m2
    have hl12 : (gadd G ps).1.length ≤ (gadd1 G k n ps).1.length := by
      obtain ⟨X2, hX2, _⟩ := gnode_pre (gadd G ps).1 k n (gadd G ps).2
      rw [gadd1_eq, hX2, List.length_append]; omega
    obtain ⟨φ3, e3, h3, m3⟩ := i2 (gadd1 G k n ps).1 φ2 P' g2 hF.rest h2 hP'
    rw [gadd_cons]
    refine ⟨φ3, fun i hi => ?_, h3, ?_⟩
    · rw [e3 i (by omega), e2 i (by omega), e1 i hi]
    · show φ3 (gadd1 G k n ps).2 :: (gadd (gadd1 G k n ps).1 r).2.map φ3 = j :: P'
      rw [m3, e3 _ hlt, m2]
theorem Hm.cl {G H : List Gn} {φ : Nat → Nat} {E F : List (Nat × Nat)} (h : Hm G H φ) (hE : ∀ a b, (a, b) ∈ E → Cl H F (φ a) (φ b)) {a b : Nat} (hc : Cl G E a b) : Cl H F (φ a) (φ b) := by
  induction hc with
  | eq e => exact hE _ _ e
  | refl a => exact .refl _
  | symm _ ih => exact .symm ih
  | trans _ _ i1 i2 => exact .trans i1 i2
  | @part x y a b j p q _ hp hq p1 q1 hk hl ha hb ih =>
    obtain ⟨s, hs⟩ := h _ _ hp
    obtain ⟨t, ht⟩ := h _ _ hq
    exact .part (j := j) ih hs ht p1 q1 hk (by simpa using hl) (by rw [List.getElem?_map, ha]; rfl) (by rw [List.getElem?_map, hb]; rfl)
theorem Hm.clash {G H : List Gn} {φ : Nat → Nat} {E F : List (Nat × Nat)} (h : Hm G H φ) (hE : ∀ a b, (a, b) ∈ E → Cl H F (φ a) (φ b)) (hc : Clash G E) : Clash H F := by
  obtain ⟨x, y, p, q, h1, hp, hq, p1, q1, hf⟩ := hc
  obtain ⟨s, hs⟩ := h _ _ hp
  obtain ⟨t, ht⟩ := h _ _ hq
  exact ⟨_, _, _, _, h.cl hE h1, hs, ht, p1, q1, fun e => hf ⟨e.1, by simpa using e.2⟩⟩
/-- One type as a forest. -/
def one1 (t : Ty1) : Fo := .cons t.1 t.2.1 t.2.2.1 t.2.2.2 .nil
/-- An equation that holds of nodes. -/
def HoldsIn (t : Sys) (x : Eqn) : Prop := ∃ a b, RepL t.1 (one1 x.1) [a] ∧ RepL t.1 (one1 x.2.1) [b] ∧ Cl t.1 t.2 a b
def Eok (x : Eqn) : Prop := Fok (one1 x.1) ∧ Fok (one1 x.2.1)
def flipE (x : Eqn) : Eqn := (x.2.1, x.1, x.2.2)
theorem HoldsIn.flip {t : Sys} {x : Eqn} (h : HoldsIn t x) : HoldsIn t (flipE x) := by
  obtain ⟨a, b, h1, h2, h3⟩ := h
  exact ⟨b, a, h2, h1, h3.symm⟩
theorem HoldsIn.later {s t : Sys} {x : Eqn} (hX : ∃ X, t.1 = s.1 ++ X) (hY : ∃ Y, t.2 = s.2 ++ Y) (h : HoldsIn s x) : HoldsIn t x := by
  obtain ⟨a, b, h1, h2, h3⟩ := h
  obtain ⟨X, hX'⟩ := hX
  exact ⟨a, b, by rw [hX']; exact h1.later, by rw [hX']; exact h2.later, h3.later ⟨X, hX'⟩ hY⟩
theorem gadd_one (G : List Gn) (t : Ty1) : gadd G (one1 t) = ((gadd1 G t.1 t.2.1 t.2.2.2).1, [(gadd1 G t.1 t.2.1 t.2.2.2).2]) := by
  unfold one1
  rw [gadd_cons, gadd_nil]
/-- What comes in holds. -/
theorem stp_ok {s : Sys} {x : Eqn} (h : Gok s.1) (hx : Eok x) : Gok (stp s x).1 ∧ HoldsIn (stp s x) x := by
  obtain ⟨g1, r1, l1⟩ := gadd_rep (one1 x.1) s.1 h hx.1
  rw [gadd_one] at g1 r1 l1
  dsimp only at g1 r1 l1
  obtain ⟨g2, r2, l2⟩ := gadd_rep (one1 x.2.1) _ g1 hx.2
  rw [gadd_one] at g2 r2 l2
  dsimp only at g2 r2 l2
  obtain ⟨X, hX, _⟩ := gadd1_pre (gadd1 s.1 x.1.1 x.1.2.1 x.1.2.2.2).1 x.2.1.1 x.2.1.2.1 x.2.1.2.2.2
  refine ⟨g2, (gadd1 s.1 x.1.1 x.1.2.1 x.1.2.2.2).2, (gadd1 (gadd1 s.1 x.1.1 x.1.2.1 x.1.2.2.2).1 x.2.1.1 x.2.1.2.1 x.2.1.2.2.2).2, ?_, r2, .eq ?_⟩
  · show RepL (gadd1 (gadd1 s.1 x.1.1 x.1.2.1 x.1.2.2.2).1 x.2.1.1 x.2.1.2.1 x.2.1.2.2.2).1 _ _
    rw [hX]
    exact r1.later
  · exact List.mem_append_right _ (List.mem_singleton.2 rfl)
theorem fold_ok (m : List Eqn) : ∀ s : Sys, Gok s.1 → (∀ x ∈ m, Eok x) → Gok (m.foldl stp s).1 ∧ ∀ x ∈ m, HoldsIn (m.foldl stp s) x := by
  induction m with
  | nil => intro s h _; exact ⟨h, fun x hx => by cases hx⟩
  | cons y m ih =>
    intro s h hm
    obtain ⟨h1, h2⟩ := stp_ok h (hm y List.mem_cons_self)
    obtain ⟨h3, h4⟩ := ih _ h1 fun x hx => hm x (List.mem_cons_of_mem _ hx)
    refine ⟨h3, fun x hx => ?_⟩
    rcases List.mem_cons.1 hx with rfl | hx
    · obtain ⟨⟨X, hX, _⟩, hY⟩ := fold_pre m (stp s x)
      exact h2.later ⟨X, hX⟩ hY
    · exact h4 x hx
/-- What holds elsewhere is found there. -/
theorem fold_hm (t : Sys) (hH : GN t.1) (m : List Eqn) : ∀ (s : Sys) (φ : Nat → Nat), Gok s.1 → (∀ a b, (a, b) ∈ s.2 → a < s.1.length ∧ b < s.1.length) → (∀ x ∈ m, Eok x) → (∀ x ∈ m, HoldsIn t x) → Hm s.1 t.1 φ → (∀ a b, (a, b) ∈ s.2 → Cl t.1 t.2 (φ a) (φ b)) →
    ∃ φ', Hm (m.foldl stp s).1 t.1 φ' ∧ ∀ a b, (a, b) ∈ (m.foldl stp s).2 → Cl t.1 t.2 (φ' a) (φ' b) := by
  induction m with
  | nil => intro s φ _ _ _ _ h hE; exact ⟨φ, h, hE⟩
  | cons y m ih =>
    intro s φ hG hl hm ht h hE
    have hy := hm y List.mem_cons_self
    obtain ⟨a, b, ra, rb, hc⟩ := ht y List.mem_cons_self
    obtain ⟨φ1, e1, h1, m1⟩ := hm_add t.1 hH (one1 y.1) s.1 φ [a] hG hy.1 h ra
    obtain ⟨g1, _, l1⟩ := gadd_rep (one1 y.1) s.1 hG hy.1
    rw [gadd_one] at h1 m1 g1 l1
    dsimp only at h1 m1 g1 l1
    obtain ⟨φ2, e2, h2, m2⟩ := hm_add t.1 hH (one1 y.2.1) _ φ1 [b] g1 hy.2 h1 rb
    obtain ⟨g2, _, l2⟩ := gadd_rep (one1 y.2.1) _ g1 hy.2
    rw [gadd_one] at h2 m2 g2 l2
    dsimp only at h2 m2 g2 l2
    simp only [List.map_cons, List.map_nil, List.cons.injEq, and_true] at m1 m2
    have la := l1 _ (List.mem_singleton.2 rfl)
    have lb := l2 _ (List.mem_singleton.2 rfl)
    obtain ⟨X1, hX1, _⟩ := gadd1_pre s.1 y.1.1 y.1.2.1 y.1.2.2.2
    obtain ⟨X2, hX2, _⟩ := gadd1_pre (gadd1 s.1 y.1.1 y.1.2.1 y.1.2.2.2).1 y.2.1.1 y.2.1.2.1 y.2.1.2.2.2
    have hl1 : s.1.length ≤ (gadd1 s.1 y.1.1 y.1.2.1 y.1.2.2.2).1.length := by rw [hX1, List.length_append]; omega
    have hl2 : (gadd1 s.1 y.1.1 y.1.2.1 y.1.2.2.2).1.length ≤ (stp s y).1.length := by
      show _ ≤ (gadd1 (gadd1 s.1 y.1.1 y.1.2.1 y.1.2.2.2).1 y.2.1.1 y.2.1.2.1 y.2.1.2.2.2).1.length
      rw [hX2, List.length_append]; omega
    refine ih (stp s y) φ2 g2 (fun c d hcd => ?_) (fun x hx => hm x (List.mem_cons_of_mem _ hx)) (fun x hx => ht x (List.mem_cons_of_mem _ hx)) h2 fun c d hcd => ?_
    · rcases List.mem_append.1 hcd with hcd | hcd
      · have := hl c d hcd
        omega
      · simp only [List.mem_cons, List.not_mem_nil, or_false, Prod.mk.injEq] at hcd
        obtain ⟨rfl, rfl⟩ := hcd
        exact ⟨by omega, lb⟩
    · rcases List.mem_append.1 hcd with hcd | hcd
      · have hlt := hl c d hcd
        rw [e2 c (by omega), e2 d (by omega), e1 c hlt.1, e1 d hlt.2]
        exact hE c d hcd
      · simp only [List.mem_cons, List.not_mem_nil, or_false, Prod.mk.injEq] at hcd
        obtain ⟨rfl, rfl⟩ := hcd
        rw [e2 _ la, m1, m2]
        exact hc
/-- Of one list of equations what holds of the other one. -/
structure Sim (s t : Sys) : Prop where
  clash : Clash s.1 s.2 → Clash t.1 t.2
  var : ∀ a, a ∈ names s.1 → a ∈ names t.1
  same : ∀ a b, SameIs s.1 s.2 a b → SameIs t.1 t.2 a b
  kind : ¬ Clash t.1 t.2 → ∀ v r r', KindIs s.1 s.2 v r → KindIs t.1 t.2 v r' → r ≠ 0 → r' = r
theorem sim_of (l m : List Eqn) (hl : ∀ x ∈ l, Eok x) (hm : ∀ x ∈ m, Eok x) (h : ∀ x ∈ l, HoldsIn (cls m) x) : Sim (cls l) (cls m) := by
  obtain ⟨gm, _⟩ := fold_ok m ([], []) Gok.nil hm
  have gm : Gok (cls m).1 := gm
  obtain ⟨φ, h1, h2⟩ := fold_hm (cls m) gm.gn l ([], []) (fun x => x) Gok.nil (fun a b h => by cases h) hl h (fun i p hp => by simp at hp) (fun a b h => by cases h)
  have h1 : Hm (cls l).1 (cls m).1 φ := h1
  have hv : ∀ a i, gvar (cls l).1 a = some i → gvar (cls m).1 a = some (φ i) := fun a i hi => by
    obtain ⟨p, hp, p1, p2⟩ := gvar_at hi
    obtain ⟨s, hs⟩ := h1 i p hp
    have := gvar_node gm.gn hs p1
    dsimp only at this
    rw [p2] at this
    exact this
  refine ⟨h1.clash h2, fun a ha => ?_, fun a b hab => ?_, fun hn v r r' hr hr' h0 => ?_⟩
  · obtain ⟨i, p, _, _, _, hi⟩ := names_at ha
    exact (gvar_names _ a).1 (by rw [hv a i hi]; rfl)
  · obtain ⟨i, j, hi, hj, hc⟩ := hab
    exact ⟨φ i, φ j, hv a i hi, hv b j hj, h1.cl h2 hc⟩
  · unfold KindIs at hr hr'
    cases hg : gvar (cls l).1 v with
    | none => rw [hg] at hr; exact absurd hr h0
    | some i =>
      rw [hg] at hr
      rw [hv v i hg] at hr'
      rcases hr with ⟨y, q, c1, c2, c3, rfl⟩ | ⟨e, _⟩
      · obtain ⟨s, hs⟩ := h1 y q c2
        have c1' := h1.cl h2 c1
        rcases hr' with ⟨z, p, g1, g2, g3, rfl⟩ | ⟨_, g⟩
        · apply Decidable.byContradiction
          intro hne
          exact hn ⟨z, φ y, p, _, g1.symm.trans c1', g2, hs, g3, c3, fun e => hne e.1⟩
        · exact absurd (g (φ y) _ c1' hs) c3
      · exact absurd e h0
theorem sim_vars {s t : Sys} (hs : GN s.1) (ht : GN t.1) (h1 : ∀ a, a ∈ names s.1 → a ∈ names t.1) (h2 : ∀ a, a ∈ names t.1 → a ∈ names s.1) : vsort s.1 = vsort t.1 := by
  obtain ⟨a1, a2⟩ := vfold s.1 [] List.Pairwise.nil
  obtain ⟨b1, b2⟩ := vfold t.1 [] List.Pairwise.nil
  rw [List.nil_append] at a2 b2
  have hp : (names s.1).Perm (names t.1) := (List.perm_ext_iff_of_nodup hs.1 ht.1).2 fun a => ⟨h1 a, h2 a⟩
  exact List.Perm.eq_of_pairwise (le := fun a b => a ≤ b) (fun a b _ _ h1 h2 => Int.le_antisymm h1 h2) a1 b1 (a2.trans (hp.trans b2.symm))
end Go.Proofs.Ytbnpmeaaaecciaa
/- unify: what UnifyOrder's walk leans on. -/
namespace Go.Proofs.Ytbnpmeaaaecciaa
open Go.RowKit
open Un (Else dg cnt own_else)
set_option maxRecDepth 100000
theorem alp_of {F : Fo} (h : ∀ x ∈ F.pre, alone x.1 x.2.1 x.2.2.2.1 = true) (hl : LenOk F) : AlP F := by
  induction F with
  | nil => trivial
  | cons k n u ps r i1 i2 =>
    obtain ⟨l1, l2, l3⟩ := hl
    have h0 := h (k, n, u) (by simp [Fo.pre])
    refine ⟨by rw [← l1]; exact h0, i1 (fun x hx => h x (by simp [Fo.pre, hx])) l2, i2 (fun x hx => h x (by simp [Fo.pre, hx])) l3⟩
theorem fok_of {B : Nat} {w : World} {t : Ty1} (hT : TyV B w t.2.2.2 (slv t.2.2.1)) (hW : TyW t) (hr : rt1 t = true) : Fok (one1 t) := by
  have hl : LenOk (one1 t) := ⟨TyV.len hT, (TyV.list hT).lenOk, trivial⟩
  have ha := rt1_right hr (TyV.len hT)
  exact ⟨vok_of ha hl, alp_of (by simpa [allAlone, one1] using ha) hl, ⟨hW.1, hW.2, trivial⟩⟩
theorem eok_of {B : Nat} {w : World} {x : Eqn} (hT : EqT B w x) (hW : TyW x.1 ∧ TyW x.2.1) (hr : rtE x = true) : Eok x := by
  have hr' : rt1 x.1 = true ∧ rt1 x.2.1 = true := by unfold rtE at hr; rwa [Bool.and_eq_true] at hr
  exact ⟨fok_of hT.1 hW.1 hr'.1, fok_of hT.2 hW.2 hr'.2⟩
theorem Eok.flip {x : Eqn} (h : Eok x) : Eok (flipE x) := ⟨h.2, h.1⟩
/-- Of a list of equations another one that has each of them, or its sides changed about, and nothing else. -/
theorem order_sim {L D : List Eqn} (hL : ∀ x ∈ L, Eok x) (hD : ∀ x ∈ D, ∃ y ∈ L, x = y ∨ x = flipE y) (hLD : ∀ y ∈ L, flipE y ∈ D) : Sim (cls L) (cls D) ∧ Sim (cls D) (cls L) := by
  have hDk : ∀ x ∈ D, Eok x := fun x hx => by
    obtain ⟨y, hy, rfl | rfl⟩ := hD x hx
    · exact hL _ hy
    · exact (hL _ hy).flip
  have h1 : ∀ x ∈ L, HoldsIn (cls D) x := fun x hx => ((fold_ok D ([], []) Gok.nil hDk).2 _ (hLD x hx)).flip
  have h2 : ∀ x ∈ D, HoldsIn (cls L) x := fun x hx => by
    obtain ⟨y, hy, rfl | rfl⟩ := hD x hx
    · exact (fold_ok L ([], []) Gok.nil hL).2 _ hy
    · exact ((fold_ok L ([], []) Gok.nil hL).2 _ hy).flip
  exact ⟨sim_of L D hL hDk h1, sim_of D L hDk hL h2⟩
section UzKs
variable {O : Nat → Prop} {w : World} {cb : Nat} {s : Sys} {f : Int}
theorem vars_cx {st : Int} (h : CxM w cb st) : Calls Try.prog 62 #[.pointer (some ⟨cb, 0, none⟩)] w fun e w' => e = .returned (.slice none 0 0) ∧ Below w.heap.size w w' := by
  have c2 : w.cell? ⟨cb, 2, none⟩ = some (.pointer none) := cell_of_row w cb 2 _ _ (0, 0) h
  have hl := (Array.getElem?_eq_some_iff.1 h).1
  clear h
  go_enter Try.func62, Try.ntmps62
  go_wp2_with fail
  refine (vars_none _).mono ?_
  rintro e w' ⟨rfl, hb⟩
  have HB := Lib.hid hb
  clear hb
  go_wp2_with fail
  exact bodyPost_ret (results_tmp rfl _ _ _) rfl ⟨rfl, HB.out⟩
end UzKs
end Go.Proofs.Ytbnpmeaaaecciaa
/- unify: what a closure that clashes answers. -/
namespace Go.Proofs.Ytbnpmeaaaecciaa
open Go.RowKit
set_option maxRecDepth 100000
section UzUs
variable {w w' : World} {cb : Nat} {st : Int}
theorem CxM.lt (h : CxM w cb st) : cb < w.heap.size := (Array.getElem?_eq_some_iff.1 h).1
theorem CxM.below (h : CxM w cb st) (hb : Below w.heap.size w w') : CxM w' cb st := (hb.block cb h.lt).trans h
theorem node_cx (h : CxM w cb st) (v : Int) : Calls Try.prog 50 #[.pointer (some ⟨cb, 0, none⟩), .int .i64 v] w fun e w' => e = .returned (.tuple #[.int .i64 0, .bool false]) ∧ Below w.heap.size w w' := by
  have c2 : w.cell? ⟨cb, 2, none⟩ = some (.pointer none) := cell_of_row w cb 2 _ _ (0, 0) h
  have hl := h.lt
  clear h
  go_enter Try.func50, Try.ntmps50
  go_wp2_with fail
  refine (var_none _ v).mono ?_
  rintro e w' ⟨rfl, hb⟩
  have HB := Lib.hid hb
  clear hb
  go_wp2_with fail
  exact bodyPost_ret (results_tmp2 rfl _ _ _) rfl ⟨rfl, HB.out⟩
theorem cpart_cx (h : CxM w cb st) (v : Int) : Calls Try.prog 20 #[.pointer (some ⟨cb, 0, none⟩), .int .i64 v] w fun e w' => e = .returned (.tuple #[ptV none 0, .bool false]) ∧ Below w.heap.size w w' := by
  have hb0 : Below w.heap.size w (w.alloc (.cells #[.pointer none, .int .i64 0] 57)) := (Below.refl _ _).alloc (Nat.le_refl _) _
  have hx := heap_alloc_new w (.cells #[.pointer none, .int .i64 0] 57)
  have HN := Lib.hid (node_cx (h.below hb0) v)
  have HX := Lib.hid (And.intro hb0 hx)
  clear h hb0 hx
  go_enter Try.func20, Try.ntmps20
  go_wp2_with fail
  refine HN.out.mono ?_
  rintro e w' ⟨rfl, hb⟩
  have hx2 := (hb.block w.heap.size (by simp)).trans HX.out.2
  have hxl := (Array.getElem?_eq_some_iff.1 hx2).1
  have d0 : w'.cell? ⟨w.heap.size, 0, none⟩ = some (.pointer none) := cell_of_row w' _ 0 _ _ (0, 0) hx2
  have d1 : w'.cell? ⟨w.heap.size, 1, none⟩ = some (.int .i64 0) := cell_of_row w' _ 1 _ _ (0, 0) hx2
  have z0 : w'.frozen? ⟨w.heap.size, 0, none⟩ = false := by simp [World.frozen?, hx2]
  have z1 : w'.frozen? ⟨w.heap.size, 1, none⟩ = false := by simp [World.frozen?, hx2]
  have HB := Lib.hid (And.intro hb hx2)
  clear hb HN hx2
  go_wp2_with fail
  have hx4 := heap_setCell_same _ w.heap.size 1 _ _ (.int .i64 0) (heap_setCell_same w' w.heap.size 0 _ _ (.pointer none) HB.out.2)
  refine bodyPost_ret (results_cell_tmp rfl _ _ w.heap.size (ptV none 0) rfl (load_pt (c := none) (cell_of_row _ _ 0 _ _ (0, 0) hx4) (cell_of_row _ _ 1 _ _ (0, 0) hx4))) rfl ⟨rfl, ?_⟩
  exact ((HX.out.1.trans (HB.out.1.mono HX.out.1.size)).setCell (Nat.le_refl _) _).setCell (Nat.le_refl _) _
theorem ckind_cx (h : CxM w cb st) (v : Int) : Calls Try.prog 36 #[.pointer (some ⟨cb, 0, none⟩), .int .i64 v] w fun e w' => e = .returned (.int .i64 0) ∧ Below w.heap.size w w' := by
  have HP := Lib.hid fun w' (hb : Below w.heap.size w w') => cpart_cx (h.below hb) v
  clear h
  go_enter Try.func36, Try.ntmps36
  go_wp2_with fail
  refine (HP.out _ (by first | exact Below.refl _ _ | exact (Below.refl _ _).alloc (Nat.le_refl _) _)).mono ?_
  rintro e w' ⟨rfl, hb⟩
  have HB := Lib.hid hb
  clear hb HP
  unfold ptV
  go_wp2_with fail
  refine (show Calls _ _ #[.agg #[.pointer none, .int .i64 0]] _ _ from kind_zero _).mono ?_
  rintro e w2 ⟨rfl, hb2⟩
  have HB2 := Lib.hid hb2
  clear hb2
  go_wp2_with fail
  exact bodyPost_ret (results_tmp rfl _ _ _) rfl ⟨rfl, (HB.out.alloc HB.out.size _).trans (HB2.out.mono (by have := HB.out.size; simp; omega))⟩
theorem same_cx (h : CxM w cb st) (a b : Int) : Calls Try.prog 22 #[.pointer (some ⟨cb, 0, none⟩), .int .i64 a, .int .i64 b] w fun e w' => e = .returned (.bool false) ∧ Below w.heap.size w w' := by
  have HP := Lib.hid fun v w' (hb : Below w.heap.size w w') => cpart_cx (h.below hb) v
  clear h
  go_enter Try.func22, Try.ntmps22
  go_wp2_with fail
  refine (HP.out a _ (by first | exact Below.refl _ _ | exact (Below.refl _ _).alloc (Nat.le_refl _) _)).mono ?_
  rintro e w' ⟨rfl, hb⟩
  have HB := Lib.hid hb
  clear hb
  unfold ptV
  go_wp2_with fail
  refine (HP.out b _ (HB.out.alloc HB.out.size _)).mono ?_
  rintro e w2 ⟨rfl, hb2⟩
  have HB2 := Lib.hid hb2
  clear hb2 HP
  unfold ptV
  go_wp2_with fail
  have hB2 : Below w.heap.size w w2 := (HB.out.alloc HB.out.size _).trans (HB2.out.mono (by have := HB.out.size; simp; omega))
  exact bodyPost_ret (results_tmp rfl _ _ _) rfl ⟨rfl, hB2.alloc hB2.size _⟩
theorem cparts_cx (h : CxM w cb st) (v : Int) : Calls Try.prog 18 #[.pointer (some ⟨cb, 0, none⟩), .int .i64 v] w fun e w' => e = .returned (.tuple #[.slice none 0 0, .bool false]) ∧ Below w.heap.size w w' := by
  have HP := Lib.hid fun w' (hb : Below w.heap.size w w') => cpart_cx (h.below hb) v
  clear h
  go_enter Try.func18, Try.ntmps18
  go_wp2_with fail
  refine (HP.out _ (by first | exact Below.refl _ _ | exact (Below.refl _ _).alloc (Nat.le_refl _) _)).mono ?_
  rintro e w' ⟨rfl, hb⟩
  have HB := Lib.hid hb
  clear hb HP
  unfold ptV
  go_wp2_with fail
  refine (show Calls _ _ #[.agg #[.pointer none, .int .i64 0]] _ _ from kind_zero _).mono ?_
  rintro e w2 ⟨rfl, hb2⟩
  have HB2 := Lib.hid hb2
  clear hb2
  go_wp2_with fail
  exact bodyPost_ret (results_tmp2 rfl _ _ _) rfl ⟨rfl, (HB.out.alloc HB.out.size _).trans (HB2.out.mono (by have := HB.out.size; simp; omega))⟩
end UzUs
end Go.Proofs.Ytbnpmeaaaecciaa
/- unify: what UnifyClasses' walk leans on. -/
namespace Go.Proofs.Ytbnpmeaaaecciaa
open Go.RowKit
open Un (Else dg cnt own_else intAt)
set_option maxRecDepth 100000
attribute [local go_sem] Oper.semAt_some
attribute [local go_sem ↓] builtin_app
/-- How many binary digits. -/
def dgt (n : Nat) : Nat := if n = 0 then 0 else dg n
theorem dgt_half {n : Nat} (h : 0 < n) : dgt n = dgt (n / 2) + 1 := by
  unfold dgt
  rw [if_neg (by omega)]
  unfold dg
  by_cases h1 : n / 2 = 0
  · rw [if_pos h1]
    have : n = 1 := by omega
    subst this
    decide
  · rw [if_neg h1, Nat.log2_def n, if_pos (by omega)]
/-- A closure that doesn't clash, above block B, with what its steps come to; q: how many equations came in. -/
def OkC (B : Nat) (w : World) (c : Nat) (s : Sys) (q : Nat) (st : Int) : Prop :=
  ∃ O fs m J, CsM O w c s.1 s.2 st fs m ∧ (0 ≤ st ∧ st ≤ (1 + 4 * (dg s.1.length : Int)) * (J : Nat) ∧ 0 ≤ fs ∧ fs ≤ (1 + 4 * (dg s.1.length : Int)) * (J : Nat)) ∧ J + 9 * m ≤ 9 * s.1.length + q ∧ ∀ k, O k → B ≤ k ∧ k < w.heap.size
section UzWs
variable {w w' : World} {B c q : Nat} {s : Sys} {st : Int}
theorem OkC.below (h : OkC B w c s q st) (hb : Below w.heap.size w w') : OkC B w' c s q st := by
  obtain ⟨O, fs, m, J, hC, h2, h3, h4⟩ := h
  exact ⟨O, fs, m, J, hC.below hb, h2, h3, fun k hk => by have := h4 k hk; have := hb.size; omega⟩
theorem OkC.noClash (h : OkC B w c s q st) : ¬ Clash s.1 s.2 := by
  obtain ⟨O, fs, m, J, hC, _⟩ := h
  exact hC.noClash
theorem mulb {d e J : Int} (h : d ≤ e) (hJ : 0 ≤ J) : (1 + 4 * d) * J ≤ (1 + 4 * e) * J := Int.mul_le_mul_of_nonneg_right (by omega) hJ
theorem mulj (d J : Int) : (1 + 4 * d) * J = J + 4 * d * J := by rw [Int.add_mul, Int.one_mul]
theorem muls (d J j : Int) : (1 + 4 * d) * (J + j) = (1 + 4 * d) * J + (j + 4 * d * j) := by rw [Int.mul_add, mulj d j]
theorem mulk {d J K : Int} (hd : 0 ≤ d) (h : J ≤ K) : (1 + 4 * d) * J ≤ (1 + 4 * d) * K := Int.mul_le_mul_of_nonneg_left h (by omega)
theorem mul22 {d J : Int} (h0 : 0 ≤ d) (h : d ≤ 21) (hJ : 0 ≤ J) (h1 : J ≤ 100000) : (1 + 4 * d) * J ≤ 10000000 := by
  have a := Int.mul_le_mul_of_nonneg_right (show 1 + 4 * d ≤ 85 by omega) hJ
  omega
theorem dg_mono {a b : Nat} (h : a ≤ b) : dg a ≤ dg b := by
  unfold dg
  rcases Nat.eq_zero_or_pos a with rfl | ha
  · simp
  · have := (Nat.le_log2 (by omega)).2 (Nat.le_trans (Nat.log2_self_le (n := a) (by omega)) h)
    omega
theorem OkC.fits (h : OkC B w c s q st) (hl : s.1.length ≤ 8000) (hq : q ≤ 100) : 0 ≤ st ∧ st ≤ 10000000 := by
  obtain ⟨O, fs, m, J, hC, ⟨g1, g2, g3, g4⟩, h3, h4⟩ := h
  have hd : dg s.1.length ≤ 21 := Un.dg_le (by omega)
  have := mul22 (d := dg s.1.length) (J := (J : Nat)) (by omega) (by omega) (by omega) (by omega)
  omega
theorem OkC.one (h : OkC B w c s q st) (hl : s.1.length ≤ 8000) (hq : q ≤ 100) : One1 B w c s 1 := by
  obtain ⟨O, fs, m, J, hC, ⟨g1, g2, g3, g4⟩, h3, h4⟩ := h
  have hd : dg s.1.length ≤ 21 := Un.dg_le (by omega)
  have := mul22 (d := dg s.1.length) (J := (J : Nat)) (by omega) (by omega) (by omega) (by omega)
  exact ⟨O, st, fs, m, hC, ⟨by omega, by omega, by omega, by omega⟩, h4⟩
/-- One right equation more. -/
theorem ok_eq (h : OkC B w c s q st) (hB : B ≤ w.heap.size) (x : Eqn) (hx : EqT B w x) (hw : TyW x.1 ∧ TyW x.2.1) (hr : rtE x = true) (hs : s.1.length + sz1 x ≤ 8000) (hq : q ≤ 100) :
    Calls Try.prog 12 #[.pointer (some ⟨c, 0, none⟩), t1V x.1, t1V x.2.1] w fun e w' => ∃ (r st' : Int), e = .returned (.int .i64 r) ∧ Below B w w' ∧ st ≤ st' ∧ st' ≤ (1 + 4 * (dg (stp s x).1.length : Int)) * ((9 * (stp s x).1.length + q + 1 : Nat) : Int) ∧
      ((r = 7 ∧ Clash (stp s x).1 (stp s x).2 ∧ CxM w' c st') ∨ (r = 0 ∧ ¬ Clash (stp s x).1 (stp s x).2 ∧ OkC B w' c (stp s x) (q + 1) st')) := by
  have hfit := h.fits (by omega) hq
  obtain ⟨O, fs, m, J, hC, ⟨g1, g2, g3, g4⟩, h9, h3⟩ := h
  have hr' : rt1 x.1 = true ∧ rt1 x.2.1 = true := by unfold rtE at hr; rwa [Bool.and_eq_true] at hr
  have ht1 : TyLat O w x.1.1 x.1.2.1 x.1.2.2.1 x.1.2.2.2 := TyLat.low hx.1 (fun k hk => (h3 k hk).1) hB ⟨hw.1.1, hw.1.2, trivial⟩ (rt1_right hr'.1 (TyV.len hx.1))
  have ht2 : TyLat O w x.2.1.1 x.2.1.2.1 x.2.1.2.2.1 x.2.1.2.2.2 := TyLat.low hx.2 (fun k hk => (h3 k hk).1) hB ⟨hw.2.1, hw.2.2, trivial⟩ (rt1_right hr'.2 (TyV.len hx.2))
  have hd0 : dg s.1.length ≤ 21 := Un.dg_le (by omega)
  have hj0 := mul22 (d := dg s.1.length) (J := (J : Nat)) (by omega) (by omega) (by omega) (by omega)
  refine (equate_ok hC x.1.1 x.1.2.1 x.2.1.1 x.2.1.2.1 x.1.2.2.1 x.2.1.2.2.1 x.1.2.2.2 x.2.1.2.2.2 ht1 ht2 (by unfold sz1 at hs; omega) (by omega) (by omega)).mono ?_
  rintro e w' ⟨hE, st', j, q1, q2, q3⟩
  obtain ⟨X, hX, hXl⟩ := (stp_pre s x).1
  have hl2 : s.1.length ≤ (stp s x).1.length := by rw [hX, List.length_append]; omega
  have hdm := dg_mono hl2
  have hB' : Below B w w' := hE.below (fun k hk => (h3 k hk).1) hB
  have e1 : (eqG s.1 x.1.1 x.1.2.1 x.1.2.2.2 x.2.1.1 x.2.1.2.1 x.2.1.2.2.2).length = (stp s x).1.length := rfl
  rw [e1] at q2 q3
  have k1 := mulb (d := dg s.1.length) (e := dg (stp s x).1.length) (J := (J : Nat)) (by omega) (by omega)
  have k2 := muls (dg (stp s x).1.length) (J : Nat) (j : Nat)
  rcases q3 with ⟨rfl, hc, hx, hj⟩ | ⟨rfl, hc, fs', m', hC', f1, f2, hj⟩
  · have k3 := mulk (d := dg (stp s x).1.length) (J := ((J : Nat) : Int) + (j : Nat)) (K := ((9 * (stp s x).1.length + q + 1 : Nat) : Int)) (by omega) (by omega)
    exact ⟨7, st', rfl, hB', q1, by omega, .inl ⟨rfl, hc, hx⟩⟩
  · have k3 := mulk (d := dg (stp s x).1.length) (J := ((J : Nat) : Int) + (j : Nat)) (K := ((9 * (stp s x).1.length + q + 1 : Nat) : Int)) (by omega) (by omega)
    have k4 := mulj (dg (stp s x).1.length) (j : Nat)
    obtain ⟨O', a1, a2⟩ := hC'.tight
    have e2 : ((J + j : Nat) : Int) = (J : Nat) + (j : Nat) := by push_cast; rfl
    refine ⟨0, st', rfl, hB', q1, by omega, .inr ⟨rfl, hc, O', fs', m', J + j, a2, ⟨by omega, by rw [e2]; omega, by omega, by rw [e2]; omega⟩, by omega, fun k hk => ?_⟩⟩
    obtain ⟨b1, b2⟩ := a1 k hk
    refine ⟨?_, b2⟩
    rcases b1 with b1 | b1
    · exact (h3 k b1).1
    · omega
/-- The bound on steps. -/
theorem steps_ok {n q e : Nat} {st : Int} (h : st ≤ (1 + 4 * (dg n : Int)) * ((9 * n + q : Nat) : Int)) (hn : n ≤ e) (hq : 2 * q ≤ e) : st ≤ 40 * ((1 + e : Nat) : Int) * ((dgt (1 + e) : Nat) + 2) := by
  have hd : dg n ≤ dgt (1 + e) := by
    unfold dgt
    rw [if_neg (by omega)]
    exact dg_mono (by omega)
  have h1 := mulb (d := dg n) (e := dgt (1 + e)) (J := ((9 * n + q : Nat) : Int)) (by omega) (by omega)
  have h2 := mulk (d := dgt (1 + e)) (J := ((9 * n + q : Nat) : Int)) (K := ((10 * (1 + e) : Nat) : Int)) (by omega) (by omega)
  have e2 : ((10 * (1 + e) : Nat) : Int) = 10 * ((1 + e : Nat) : Int) := by push_cast; rfl
  rw [e2] at h2
  have h5 := Int.le_trans h (Int.le_trans h1 h2)
  have hy : 0 ≤ ((1 + e : Nat) : Int) := by omega
  clear h h1 h2 hn hq hd e2
  generalize ((1 + e : Nat) : Int) = y at *
  generalize ((dgt (1 + e) : Nat) : Int) = d at *
  have h3 : (1 + 4 * d) * (10 * y) = 10 * y + 40 * (d * y) := by
    rw [Int.add_mul, Int.one_mul, Int.mul_assoc, Int.mul_left_comm d 10 y, ← Int.mul_assoc 4 10]
    rfl
  have h4 : 40 * y * (d + 2) = 40 * (d * y) + 80 * y := by
    rw [Int.mul_add, Int.mul_assoc, Int.mul_comm y d]
    congr 1
    rw [Int.mul_comm, ← Int.mul_assoc]
    rfl
  rw [h3] at h5
  rw [h4]
  omega
end UzWs
end Go.Proofs.Ytbnpmeaaaecciaa
