/- Texts of one proof, one behind the other. -/
import Derived.Test.YtfoangiphbmipaaMgTermOrder23
import Derived.Test.YtfoangiphbmipaaMgTermOrder24
import Derived.Test.YtfoangiphbmipaaMgTermOrder21
import Derived.Test.YtfoangiphbmipaaMgTermOrder22
import Derived.Test.YtfoangiphbmipaaMgTermOrder9
/- The answer's Equal of terms; law05's example. -/
namespace Go.Proofs.Ytfoangiphbmipaa
open Go.RowKit Go.Shelf
attribute [local go_sem] Oper.semAt_some

set_option maxHeartbeats 2000000 in
set_option maxRecDepth 100000 in
theorem requal_any (x y : Nd) (f g : Te) (w : World) (hs : f.size ≤ 1000000) (hs' : g.size ≤ 1000000) (h : TmL w.heap.size w (x, f)) (h' : TmL w.heap.size w (y, g))
    (ht : x.ty.size ≤ 1000000) (ht' : y.ty.size ≤ 1000000) (ha : f.all (fun x => x.ty.size ≤ 1000000)) (ha' : g.all (fun x => x.ty.size ≤ 1000000)) :
    Calls Try.prog 8 #[teVal x, teVal y] w fun e w' => e = .returned (.bool (ndE true x y && f.same true g)) ∧ Below w.heap.size w w' := by
  obtain ⟨w1, hw1⟩ : ∃ w1, (w.alloc (Obj.cells (ndC x).toArray 29)).alloc (Obj.cells (ndC y).toArray 29) = w1 := ⟨_, rfl⟩
  have hb1 : Below w.heap.size w w1 := by rw [← hw1]; exact ((Below.refl _ _).alloc (Nat.le_refl _) _).alloc (by simp) _
  have hc := rtesame_any true (f.size + 1) f g x y w1 (by omega) hs hs' (h.up hb1 hb1.size) (h'.up hb1 hb1.size) ht ht' ha ha'
  obtain ⟨R, hR⟩ : ∃ R, (ndE true x y && f.same true g) = R := ⟨_, rfl⟩
  rw [hR] at hc ⊢
  rw [← hw1] at hc
  have HW := Lib.hid (And.intro hw1 hb1)
  obtain ⟨x0, x1, x2, x3, x4, ⟨xu1, xu2, xu3⟩, x6, ⟨xv1, xv2, xv3⟩, x8, x9⟩ := x
  obtain ⟨y0, y1, y2, y3, y4, ⟨yu1, yu2, yu3⟩, y6, ⟨yv1, yv2, yv3⟩, y8, y9⟩ := y
  dsimp only [teVal, slv, ndC] at hc HW ⊢
  have HC := Lib.hid hc
  clear hc h h' ht ht' ha ha' hR hw1 hb1
  go_enter Try.func8, Try.ntmps8
  go_wp2_with fail
  refine HC.out.mono ?_
  rintro e w2 ⟨rfl, hb2⟩
  rw [HW.out.1] at hb2
  have HB := Lib.hid (HW.out.2.trans (hb2.mono HW.out.2.size))
  clear hb2
  go_wp2_with fail
  go_ret
  exact ⟨rfl, HB.out⟩
theorem img_nil {g : Fo} (h : Img idn .nil g) : g = .nil := by cases g <;> simp_all [Img]
theorem timg_nil {g : Te} (h : TImg .nil g) : g = .nil := by cases g <;> simp_all [TImg]
def fN : Nd := ⟨1, ⟨#[102]⟩, 0, 0, 0, (none, 0, 0), .nil, (none, 0, 0), 0, 0⟩
def xN : Nd := ⟨1, ⟨#[120]⟩, 0, 0, 0, (none, 0, 0), .nil, (none, 0, 0), 0, 0⟩
/-- The example's terms. -/
theorem exam {g : Te} (h : TImg (.cons fN .nil (.cons xN .nil .nil)) g) : ∃ tu u tu2 u2 : Sl, g = .cons { fN with tu := tu, u := u } .nil (.cons { xN with tu := tu2, u := u2 } .nil .nil) := by
  cases g with
  | nil => simp [TImg] at h
  | cons y p r =>
    simp only [TImg] at h
    obtain ⟨⟨h1, h2, h3, h4, h5, h6, h7, h8⟩, hp, hr⟩ := h
    obtain rfl := timg_nil hp
    cases r with
    | nil => simp [TImg] at hr
    | cons y2 p2 r2 =>
      simp only [TImg] at hr
      obtain ⟨⟨k1, k2, k3, k4, k5, k6, k7, k8⟩, hp2, hr2⟩ := hr
      obtain rfl := timg_nil hp2
      obtain rfl := timg_nil hr2
      have e6 := img_nil h6
      have e6' := img_nil k6
      obtain ⟨a0, a1, a2, a3, a4, a5, a6, a7, a8, a9⟩ := y
      obtain ⟨b0, b1, b2, b3, b4, b5, b6, b7, b8, b9⟩ := y2
      simp only [fN, xN] at h1 h2 h3 h4 h5 h7 h8 k1 k2 k3 k4 k5 k7 k8 e6 e6'
      subst h1; subst h2; subst h3; subst h4; subst h5; subst h7; subst h8; subst k1; subst k2; subst k3; subst k4; subst k5; subst k7; subst k8; subst e6; subst e6'
      exact ⟨a5, a7, b5, b7, rfl⟩
theorem exam_all (tu u t1 s1 t2 s2 : Sl) : (one_ ⟨5, ⟨#[]⟩, 0, 0, 0, tu, .nil, u, 0, 0⟩ (.cons { fN with tu := t1, u := s1 } .nil (.cons { xN with tu := t2, u := s2 } .nil .nil))).pre.all aloneE = true := by
  have h1 : nameB (bs (⟨#[102]⟩ : ByteArray)) = true := by decide +kernel
  have h2 : nameB (bs (⟨#[120]⟩ : ByteArray)) = true := by decide +kernel
  simp [Te.pre, aloneE, nmB, nmd, nuB, tyB, paB, fN, xN, h1, h2, Te.len, Fo.same]
set_option maxHeartbeats 4000000 in
set_option maxRecDepth 100000 in
/-- law05's example. -/
theorem awake05_any (w : World) : Calls Try.prog 5 #[] w fun e w' => e = .returned (.bool true) ∧ Below w.heap.size w w' := by
  obtain ⟨w1, hw1⟩ : ∃ w1, w.alloc (Obj.cells #[.int .i64 1, .string ⟨#[102]⟩, .int .i64 0, .int .i64 0, .int .i64 0, .slice none 0 0, .slice none 0 0, .int .i64 0, .int .i64 0, .int .i64 1, .string ⟨#[120]⟩, .int .i64 0, .int .i64 0, .int .i64 0, .slice none 0 0, .slice none 0 0, .int .i64 0, .int .i64 0] 29) = w1 := ⟨_, rfl⟩
  have hb1 : Below w.heap.size w w1 := by rw [← hw1]; exact (Below.refl _ _).alloc (Nat.le_refl _) _
  have hs1 : w1.heap.size = w.heap.size + 1 := by rw [← hw1]; simp
  have hh1 : w1.heap[w.heap.size]? = some (Obj.cells #[.int .i64 1, .string ⟨#[102]⟩, .int .i64 0, .int .i64 0, .int .i64 0, .slice none 0 0, .slice none 0 0, .int .i64 0, .int .i64 0, .int .i64 1, .string ⟨#[120]⟩, .int .i64 0, .int .i64 0, .int .i64 0, .slice none 0 0, .slice none 0 0, .int .i64 0, .int .i64 0] 29) := by rw [← hw1]; exact heap_alloc_new _ _
  have hF : TeV w1.heap.size w1 (.cons fN .nil (.cons xN .nil .nil)) (.slice (some ⟨w.heap.size, 0, none⟩) 2 2) := by
    refine teV_cons.2 ⟨w.heap.size, 0, 2, rfl, by simp [Te.len], by unfold maxLen; omega, by omega, teC_cons.2 ⟨⟨cell_of_row w1 _ 0 _ _ (0, 0) hh1, cell_of_row w1 _ 1 _ _ (0, 0) hh1, cell_of_row w1 _ 2 _ _ (0, 0) hh1, cell_of_row w1 _ 3 _ _ (0, 0) hh1, cell_of_row w1 _ 4 _ _ (0, 0) hh1, cell_of_row w1 _ 5 _ _ (0, 0) hh1, cell_of_row w1 _ 6 _ _ (0, 0) hh1, cell_of_row w1 _ 7 _ _ (0, 0) hh1, cell_of_row w1 _ 8 _ _ (0, 0) hh1⟩, tyV_nil.2 ⟨none, 0, rfl⟩, teV_nil.2 ⟨none, 0, rfl⟩, teC_cons.2 ⟨⟨cell_of_row w1 _ 9 _ _ (0, 0) hh1, cell_of_row w1 _ 10 _ _ (0, 0) hh1, cell_of_row w1 _ 11 _ _ (0, 0) hh1, cell_of_row w1 _ 12 _ _ (0, 0) hh1, cell_of_row w1 _ 13 _ _ (0, 0) hh1, cell_of_row w1 _ 14 _ _ (0, 0) hh1, cell_of_row w1 _ 15 _ _ (0, 0) hh1, cell_of_row w1 _ 16 _ _ (0, 0) hh1, cell_of_row w1 _ 17 _ _ (0, 0) hh1⟩, tyV_nil.2 ⟨none, 0, rfl⟩, teV_nil.2 ⟨none, 0, rfl⟩, teC_nil⟩⟩⟩
  have hc := apply_any w1 _ _ hF (by simp [Te.len]) (by simp [Te.size]) ⟨by simp [fN, Fo.size], trivial, by simp [xN, Fo.size], trivial, trivial⟩
  rw [← hw1] at hc
  have HC := Lib.hid hc
  have HW := Lib.hid (And.intro hw1 (And.intro hb1 hs1))
  clear hc hF hh1 hw1 hb1 hs1
  go_enter Try.func5, Try.ntmps5
  go_wp2_with fail
  refine HC.out.mono ?_
  rintro e w2 ⟨hb2, ⟨u1, u2, u3⟩, ⟨s1, s2, s3⟩, rfl, hf2⟩
  rw [HW.out.1] at hb2
  obtain ⟨ty, g, hty, hg, hTy, hTe⟩ := hf2.now
  obtain rfl := img_nil hty
  obtain ⟨t1, q1, t2, q2, rfl⟩ := exam hg
  have hL2 : TmL w2.heap.size w2 ((⟨5, ⟨#[]⟩, 0, 0, 0, (u1, u2, u3), .nil, (s1, s2, s3), 0, 0⟩ : Nd), .cons { fN with tu := t1, u := q1 } .nil (.cons { xN with tu := t2, u := q2 } .nil .nil)) := ⟨hTy, hTe⟩
  have HB2 := Lib.hid (show Below w.heap.size w w2 from HW.out.2.1.trans (hb2.mono HW.out.2.1.size))
  have HL2 := Lib.hid hL2
  clear hf2 hty hg hTy hTe hL2 hb2 HC
  -- the box of the term
  obtain ⟨w3, hw3⟩ : ∃ w3, w2.alloc (Obj.cells #[.int .i64 5, .string ⟨#[]⟩, .int .i64 0, .int .i64 0, .int .i64 0, .slice u1 u2 u3, .slice s1 s2 s3, .int .i64 0, .int .i64 0] 29) = w3 := ⟨_, rfl⟩
  have hb3 : Below w2.heap.size w2 w3 := by rw [← hw3]; exact (Below.refl _ _).alloc (Nat.le_refl _) _
  have hs3 : w3.heap.size = w2.heap.size + 1 := by rw [← hw3]; simp
  have hh3 : w3.heap[w2.heap.size]? = some (Obj.cells #[.int .i64 5, .string ⟨#[]⟩, .int .i64 0, .int .i64 0, .int .i64 0, .slice u1 u2 u3, .slice s1 s2 s3, .int .i64 0, .int .i64 0] 29) := by rw [← hw3]; exact heap_alloc_new _ _
  have hN := nth_any w3 w2.heap.size (⟨5, ⟨#[]⟩, 0, 0, 0, (u1, u2, u3), .nil, (s1, s2, s3), 0, 0⟩ : Nd) _ 2 (by omega) (HL2.out.below hb3) (by simp [Te.size]) ⟨by simp [Fo.size], ⟨by simp [fN, Fo.size], trivial, by simp [xN, Fo.size], trivial, trivial⟩, trivial⟩
  rw [← hw3] at hN
  dsimp only [teVal, slv] at hN
  have HN := Lib.hid hN
  have HW3 := Lib.hid (And.intro hw3 (And.intro hb3 (And.intro hs3 hh3)))
  clear hN hw3 hb3 hs3 hh3
  dsimp only [applT, Te.top, List.foldl, ap2, teVal, nd5, nd0, slv]
  go_wp2_with fail
  refine HN.out.mono ?_
  rintro e w4 ⟨hb4, h4⟩
  rw [HW3.out.1] at hb4
  rcases h4 with ⟨t, tu, u, B, M, _, ht, rfl, _, _⟩ | ⟨h4, _⟩
  case inr => simp [Te.pre] at h4
  have htn : t.1.s = ⟨#[120]⟩ := by
    simp [Te.pre] at ht
    rw [← ht]
    rfl
  have hb34 := HW3.out.2.1.trans (hb4.mono (by have := HW3.out.2.2.1; omega))
  have hh4 := (hb4.block w2.heap.size (by have := HW3.out.2.2.1; omega)).trans HW3.out.2.2.2
  obtain ⟨⟨y0, y1, y2, y3, y4, ⟨yu1, yu2, yu3⟩, y6, ⟨yv1, yv2, yv3⟩, y8, y9⟩, yp⟩ := t
  obtain ⟨tu1, tu2, tu3⟩ := tu
  obtain ⟨p1, p2, p3⟩ := u
  dsimp only [teVal, slv] at htn ⊢
  subst htn
  have HB4 := Lib.hid (And.intro hb34 hh4)
  clear hb34 hh4 hb4 ht
  -- the box of the found one
  obtain ⟨w5, hw5⟩ : ∃ w5, w4.alloc (Obj.cells #[.int .i64 y0, .string ⟨#[120]⟩, .int .i64 y2, .int .i64 y3, .int .i64 y4, .slice tu1 tu2 tu3, .slice p1 p2 p3, .int .i64 y8, .int .i64 y9] 29) = w5 := ⟨_, rfl⟩
  have hb5 : Below w4.heap.size w4 w5 := by rw [← hw5]; exact (Below.refl _ _).alloc (Nat.le_refl _) _
  have hs5 : w5.heap.size = w4.heap.size + 1 := by rw [← hw5]; simp
  have hh5 : w5.heap[w4.heap.size]? = some (Obj.cells #[.int .i64 y0, .string ⟨#[120]⟩, .int .i64 y2, .int .i64 y3, .int .i64 y4, .slice tu1 tu2 tu3, .slice p1 p2 p3, .int .i64 y8, .int .i64 y9] 29) := by rw [← hw5]; exact heap_alloc_new _ _
  have hx5 := (hb5.block w2.heap.size (Array.getElem?_eq_some_iff.1 HB4.out.2).1).trans HB4.out.2
  obtain ⟨c0, c1, c2, c3, c4, c5, c6, c7, c8⟩ : NdAt w4 w2.heap.size 0 (⟨5, ⟨#[]⟩, 0, 0, 0, (u1, u2, u3), .nil, (s1, s2, s3), 0, 0⟩ : Nd) := NdAt.of_block (T := 29) HB4.out.2
  dsimp only [slv] at c5 c6
  simp only [Nat.zero_add] at c0 c1 c2 c3 c4 c5 c6 c7 c8
  have hb25 : Below w2.heap.size w2 w5 := HB4.out.1.trans (hb5.mono HB4.out.1.size)
  have hR := eright_any w5 w2.heap.size (⟨5, ⟨#[]⟩, 0, 0, 0, (u1, u2, u3), .nil, (s1, s2, s3), 0, 0⟩ : Nd) _ (by have := HB4.out.1.size; omega) (HL2.out.below hb25) (by simp [Te.size]) ⟨⟨by show (0 : Nat) ≤ 60; omega, by simp [Fo.size], trivial, rfl⟩, ⟨⟨by show (1 : Nat) ≤ 60; omega, by simp [fN, Fo.size], trivial, rfl⟩, trivial, ⟨by show (1 : Nat) ≤ 60; omega, by simp [xN, Fo.size], trivial, rfl⟩, trivial, trivial⟩, trivial⟩
  rw [exam_all, ← hw5] at hR
  dsimp only [teVal, slv] at hR
  have HR := Lib.hid hR
  have HW5 := Lib.hid (And.intro hw5 (And.intro hb5 (And.intro hs5 (And.intro hh5 (And.intro hx5 hb25)))))
  have hlt : w2.heap.size < w4.heap.size := (Array.getElem?_eq_some_iff.1 HB4.out.2).1
  clear hR hw5 hb5 hs5 hh5 hx5 hb25
  go_wp2_with fail
  refine HR.out.mono ?_
  rintro e w6 ⟨rfl, hb6⟩
  rw [HW5.out.1] at hb6
  obtain ⟨_, hb5, hs5, hh5, hx5, hb25⟩ := HW5.out
  have hx6 := (hb6.block _ (Array.getElem?_eq_some_iff.1 hx5).1).trans hx5
  have hh6 := (hb6.block _ (Array.getElem?_eq_some_iff.1 hh5).1).trans hh5
  have hb26 := hb25.trans (hb6.mono hb25.size)
  clear c0 c1 c2 c3 c4 c5 c6 c7 c8
  obtain ⟨c0, c1, c2, c3, c4, c5, c6, c7, c8⟩ : NdAt w6 w2.heap.size 0 (⟨5, ⟨#[]⟩, 0, 0, 0, (u1, u2, u3), .nil, (s1, s2, s3), 0, 0⟩ : Nd) := NdAt.of_block (T := 29) hx6
  dsimp only [slv] at c5 c6
  simp only [Nat.zero_add] at c0 c1 c2 c3 c4 c5 c6 c7 c8
  have hS := esize_any w6 w2.heap.size (⟨5, ⟨#[]⟩, 0, 0, 0, (u1, u2, u3), .nil, (s1, s2, s3), 0, 0⟩ : Nd) _ hb26.size (HL2.out.below hb26) (by simp [Te.size])
  dsimp only [teVal, slv] at hS
  rw [show (1 + ((Te.cons { fN with tu := t1, u := q1 } .nil (.cons { xN with tu := t2, u := q2 } .nil .nil)).size : Int)) = 3 by simp [Te.size]] at hS
  have HS := Lib.hid hS
  have HW6 := Lib.hid (And.intro hh6 hb26)
  clear hS hb5 hs5 hh5 hx5 hb25 hx6 hh6 hb26 hb6
  go_wp2_with fail
  refine HS.out.mono ?_
  rintro e w7 ⟨rfl, hb7⟩
  have hh7 := (hb7.block _ (Array.getElem?_eq_some_iff.1 HW6.out.1).1).trans HW6.out.1
  have n1 : w7.cell? ⟨w4.heap.size, 1, none⟩ = some (.string ⟨#[120]⟩) := cell_of_row w7 _ 1 _ _ (0, 0) hh7
  have HB7 := Lib.hid (show Below w.heap.size w w7 from HB2.out.trans ((HW6.out.2.trans (hb7.mono HW6.out.2.size)).mono HB2.out.size))
  clear hh7 hb7 c0 c1 c2 c3 c4 c5 c6 c7 c8
  go_wp2_with fail
  go_ret
  exact ⟨rfl, HB7.out⟩
end Go.Proofs.Ytfoangiphbmipaa
/- TermApplies. -/
namespace Go.Proofs.Ytfoangiphbmipaa
open Go.RowKit Go.Shelf
attribute [local go_sem] Oper.semAt_some

theorem eimg_refl (f : Fo) : Img idn f f := by
  induction f with
  | nil => trivial
  | cons k n u ps r ih1 ih2 => simp only [Img, nm_id]; exact ⟨trivial, trivial, ih1, ih2⟩
theorem eimg_two {f g h : Fo} (a : Img idn f g) (b : Img idn f h) : g.same h = true := by
  induction f generalizing g h with
  | nil => cases g <;> cases h <;> simp_all [Img, Fo.same]
  | cons k n u ps r ih1 ih2 =>
    cases g with
    | nil => simp [Img] at a
    | cons k' n' u' ps' r' =>
      cases h with
      | nil => simp [Img] at b
      | cons k2 n2 u2 ps2 r2 =>
        simp only [Img, nm_id] at a b
        obtain ⟨rfl, rfl, a3, a4⟩ := a
        obtain ⟨rfl, rfl, b3, b4⟩ := b
        simp [Fo.same, ih1 a3 b3, ih2 a4 b4]
theorem ndI_refl (x : Nd) : NdI x x := ⟨rfl, rfl, rfl, rfl, rfl, eimg_refl _, rfl, rfl⟩
theorem timg_refl (f : Te) : TImg f f := by
  induction f with
  | nil => trivial
  | cons x ps r ih1 ih2 => exact ⟨ndI_refl x, ih1, ih2⟩
theorem ndI_two {x y z : Nd} (a : NdI x y) (b : NdI x z) : ndE true y z = true := by
  obtain ⟨a1, a2, a3, a4, a5, a6, a7, a8⟩ := a
  obtain ⟨b1, b2, b3, b4, b5, b6, b7, b8⟩ := b
  simp [ndE, a1, a2, a3, a4, a5, a7, a8, b1, b2, b3, b4, b5, b7, b8, eimg_two a6 b6]
theorem timg_two {f g h : Te} (a : TImg f g) (b : TImg f h) : g.same true h = true := by
  induction f generalizing g h with
  | nil => cases g <;> cases h <;> simp_all [TImg, Te.same]
  | cons x ps r ih1 ih2 =>
    cases g with
    | nil => simp [TImg] at a
    | cons y ps' r' =>
      cases h with
      | nil => simp [TImg] at b
      | cons z ps2 r2 =>
        simp only [TImg] at a b
        simp [Te.same, ndI_two a.1 b.1, ih1 a.2.1 b.2.1, ih2 a.2.2 b.2.2]
theorem ndI_tys {x y : Nd} {N : Nat} (h : NdI x y) (k : x.ty.size ≤ N) : y.ty.size ≤ N := by rw [Img.size h.2.2.2.2.2.1]; exact k
theorem timg_tys {f g : Te} {N : Nat} (h : TImg f g) (k : f.all fun x => x.ty.size ≤ N) : g.all fun x => x.ty.size ≤ N := by
  induction f generalizing g with
  | nil => cases g <;> simp_all [TImg, Te.all]
  | cons x ps r ih1 ih2 =>
    cases g with
    | nil => simp [TImg] at h
    | cons y ps' r' => exact ⟨ndI_tys h.1 k.1, ih1 h.2.1 k.2.1, ih2 h.2.2 k.2.2⟩
theorem Te.all_mono {P Q : Nd → Prop} {f : Te} (h : f.all P) (k : ∀ x, P x → Q x) : f.all Q := by
  induction f with
  | nil => trivial
  | cons x ps r ih1 ih2 => exact ⟨k _ h.1, ih1 h.2.1, ih2 h.2.2⟩
theorem Te.all_top {P : Nd → Prop} {f : Te} (h : f.all P) : ∀ t ∈ f.top, P t.1 ∧ t.2.all P := by
  induction f with
  | nil => intro t ht; cases ht
  | cons x ps r _ ih =>
    intro t ht
    simp only [Te.top, List.mem_cons] at ht
    rcases ht with rfl | ht
    · exact ⟨h.1, h.2.1⟩
    · exact ih h.2.2 t ht
def msum (l : List Tm) : Nat := (l.map fun t => t.2.size + 2).sum
theorem msum_top (f : Te) : msum f.top ≤ 2 * f.size := by
  induction f with
  | nil => simp [msum, Te.top]
  | cons x ps r _ ih => simp only [msum, Te.top, List.map_cons, List.sum_cons, Te.size] at ih ⊢; omega
theorem foldl_size (l : List Tm) (a : Tm) : (l.foldl ap2 a).2.size ≤ a.2.size + msum l := by
  induction l generalizing a with
  | nil => simp [msum]
  | cons t r ih =>
    have := ih (ap2 a t)
    simp only [List.foldl_cons, msum, List.map_cons, List.sum_cons] at this ⊢
    simp only [ap2, Te.size] at this ⊢
    omega
theorem applT_size (f : Te) : (applT f.top).2.size ≤ 2 * f.size := by
  cases f with
  | nil => simp [applT, Te.top, Te.size]
  | cons x ps r =>
    have h1 := foldl_size r.top (x, ps)
    have h2 := msum_top r
    simp only [applT, Te.top, Te.size] at h1 ⊢
    omega
theorem foldl_all {P : Nd → Prop} (l : List Tm) (a : Tm) (h5 : P nd5) (ha : P a.1 ∧ a.2.all P) (hl : ∀ t ∈ l, P t.1 ∧ t.2.all P) : P (l.foldl ap2 a).1 ∧ (l.foldl ap2 a).2.all P := by
  induction l generalizing a with
  | nil => exact ha
  | cons t r ih =>
    have ht := hl t List.mem_cons_self
    exact ih (ap2 a t) ⟨h5, ha.1, ha.2, ht.1, ht.2, trivial⟩ fun t ht => hl t (List.mem_cons_of_mem _ ht)
theorem applT_all {P : Nd → Prop} (f : Te) (h5 : P nd5) (h0 : P nd0) (hf : f.all P) : P (applT f.top).1 ∧ (applT f.top).2.all P := by
  cases f with
  | nil => exact ⟨h0, trivial⟩
  | cons x ps r => exact foldl_all r.top (x, ps) h5 ⟨hf.1, hf.2.1⟩ (Te.all_top hf.2.2)
/-- What the law has put together: it hangs on no box of its own. -/
def WantIs (w0 : World) (a : Tm) (W : World) : Prop :=
  ∃ (y : Nd) (g : Te), NdI a.1 y ∧ TImg a.2 g ∧ W.heap[w0.heap.size]? = some (Obj.cells (ndC y).toArray 29) ∧ ∀ W' : World, W.heap.size ≤ W'.heap.size → (∀ k, k ≠ w0.heap.size → k < W.heap.size → W'.heap[k]? = W.heap[k]?) → TmL W'.heap.size W' (y, g)
theorem WantIs.below {w0 : World} {a : Tm} {W W' : World} (h : WantIs w0 a W) (hb : Below W.heap.size W W') : WantIs w0 a W' := by
  obtain ⟨y, g, h1, h2, h3, h4⟩ := h
  exact ⟨y, g, h1, h2, (hb.block _ (Array.getElem?_eq_some_iff.1 h3).1).trans h3, fun W2 hs hk => h4 W2 (Nat.le_trans hb.size hs) fun k h5 h6 => (hk k h5 (Nat.lt_of_lt_of_le h6 hb.size)).trans (hb.block k h6)⟩
theorem TmL.aside {w0 W W' : World} {t : Tm} (h : TmL w0.heap.size w0 t) (hb : Below w0.heap.size w0 W) (hs : W.heap.size ≤ W'.heap.size) (hk : ∀ k, k ≠ w0.heap.size → k < W.heap.size → W'.heap[k]? = W.heap[k]?) : TmL W'.heap.size W' t :=
  h.keep (Nat.le_trans hb.size hs) fun b off hlt => World.cell?_of_block ((hk b (by omega) (Nat.lt_of_lt_of_le hlt hb.size)).trans (hb.block b hlt))
end Go.Proofs.Ytfoangiphbmipaa
/- A range over a function whose iterator has blocks of its own, and tells of what it gives how that lies in memory: the contract, and the statement. Nothing here speaks of the program. -/
namespace Go.Proofs.Ytfoangiphbmipaa
open Go.RowKit
variable {n : Nat} {P : Program}

/-- The iterator's contract: what it owns is from where it began on. -/
def SeqT {α : Type} (n : Nat) (P : Program) (g : Nat) (lb : Array Value) (B : Nat) (encs : α → Array Value) (S Sp : List α → Prop) (G : (Nat → Prop) → World → List α → α → Prop) (w : World) : Prop :=
  ∀ (l : Nat) (J Jx : (Nat → Prop) → List α → World → Prop) (W : World), Below w.heap.size w W → AbS J → AbS Jx →
    (∀ O pre x W1, J O pre W1 → (∀ k, O k → W.heap.size ≤ k ∧ k < W1.heap.size) → W.heap.size ≤ W1.heap.size → Below B W W1 → G O W1 pre x → YieldAt Fence.wide (n - 1) P l (encs x) W1 fun e W' =>
      (e = .returned (.bool true) ∧ J O (pre ++ [x]) W' ∧ Kq O B W1 W') ∨ (e = .returned (.bool false) ∧ Jx O (pre ++ [x]) W' ∧ Kq O B W1 W')) → J (fun _ => False) [] W →
    CallsIn Fence.wide n P g (#[.func (.yield l) #[] #[]] ++ lb) W fun e W' => (∃ v, e = .returned v) ∧ ((∃ xs O, S xs ∧ J O xs W') ∨ (∃ pre O, Sp pre ∧ Jx O pre W'))
/-- A simple contract is one. -/
theorem SeqS.toT {α : Type} {g : Nat} {lb : Array Value} {B : Nat} {encs : α → Array Value} {S Sp : List α → Prop} {G : List α → α → Prop} {w : World} (h : SeqS n P g lb B encs S Sp G w) : SeqT n P g lb B encs S Sp (fun _ _ => G) w := h
/-- Yield's contract at whatever depth. -/
theorem roundIn_wide {m l : Nat} {f : FuncId} {tmps : Array Value} {assign body : Code} {w : World} {R : Ending → World → Prop} (h : RoundIn Fence.wide n P l f tmps assign body w R) : RoundIn Fence.wide m P l f tmps assign body w R :=
  ⟨h.1, fun c cs _ => h.2 c cs fun d hd => by cases hd⟩
/-- The statement. -/
theorem wpIn_rangeT {α : Type} {g : Operand} {ps : Array Tmp} {assign body : Code} {Q : Exit → Act → World → Prop} {a : Act} {w : World}
    (h1 : 1 ≤ n) {gf : Nat} {lb : Array Value} (hg : a.eval g = .func (.func gf) #[] lb) (eg : ∀ args w, (callFunc gf args).run P w = .ok (.enter gf args) w)
    {B : Nat} {encs : α → Array Value} {S Sp : List α → Prop} {G : (Nat → Prop) → World → List α → α → Prop} {w0 : World} (hseq : SeqT (n - 1) P gf lb B encs S Sp G w0) (hb0 : Below w0.heap.size w0 w) (hBw : B ≤ w.heap.size)
    (hps : ∀ x, (encs x).size = ps.size)
    (I : (Nat → Prop) → List α → World → Prop) (Ix : Code → (Nat → Prop) → List α → World → Prop) (hI : ∀ O s W W', I O s W → Stp (fun k => k = w.heap.size ∨ k = w.heap.size + 1) W W' → I O s W') (hIx : ∀ c O s W W', Ix c O s W → Stp (fun k => k = w.heap.size ∨ k = w.heap.size + 1) W W' → Ix c O s W') (hIc : AbS I) (hIxc : ∀ c, AbS (Ix c)) (h0 : I (fun _ => False) [] w)
    (Ax : (Nat → Prop) → List α → α → Act → World → Prop) (hAx : ∀ O pre x a', OwnFrom w.heap.size (fun (_ : Unit) W => Ax O pre x a' W))
    (hassign : ∀ (l : Nat) (O : Nat → Prop) (pre : List α) (x : α) (W : World) (K : Act → World → Prop), I O pre W → G O W pre x → w.heap.size ≤ W.heap.size → (∀ k, O k → w.heap.size ≤ k ∧ k < W.heap.size) → (∀ a' W', KeepsFrom w.heap.size W W' → Kq O B W W' → I O pre W' → Ax O pre x a' W' → K a' W') →
      assign.wpIn (Fence.wide.inRound l) (n - 1 - 1) P (Exit.then K (fun _ _ _ => False)) { tmps := (ps.zip (encs x)).foldl (fun t (p, v) => t.setIfInBounds p v) a.tmps, defers := [] } W)
    (hbody : ∀ (l : Nat) (O : Nat → Prop) (pre : List α) (x : α) (a' : Act) (W : World), w.heap.size ≤ l → I O pre W → w.heap.size ≤ W.heap.size → (∀ k, O k → w.heap.size ≤ k ∧ k < W.heap.size) → Ax O pre x a' W → body.wpIn (Fence.wide.inRound l) (n - 1 - 1) P (ownPostG w.heap.size (Kq O B) (I O) (fun c s W' => Ix c O s W' ∧ Kq O B W W') (pre ++ [x]) W) a' W)
    (hdone : ∀ (D : Nat) (O : Nat → Prop) (xs : List α) (W : World), w.heap.size ≤ D → S xs → I O xs W → D = w.heap.size → W.heap[D]? = some (.deferred (some [])) → Q .normal { a with defers := { target := .collected D, args := #[] } :: a.defers } W)
    (hstop : ∀ (D : Nat) (c : Code) (O : Nat → Prop) (pre : List α) (W : World), w.heap.size ≤ D → Sp pre → Ix c O pre W → D = w.heap.size → W.heap[D]? = some (.deferred (some [])) → c.wpIn Fence.wide n P Q { a with defers := { target := .collected D, args := #[] } :: a.defers } W) :
    (Code.rangeFunc g ps assign body).wpIn Fence.wide n P Q a w := by
  refine wpIn_rangeFunc fun fn hfn => ?_
  obtain ⟨R, hR⟩ : ∃ R : LoopState → Option Code → Loop, R = fun st pe => { state := st, pending := pe, fn, tmps := a.tmps, params := ps, assign, body, defers := w.heap.size } := ⟨_, rfl⟩
  obtain ⟨W1, hW1⟩ : ∃ W1, (w.alloc (.deferred (some []))).alloc (.loop (R .ready none)) = W1 := ⟨_, rfl⟩
  have hL1 : Laid w (R .ready none) W1 := by rw [← hW1]; exact Laid.new w _
  have hI1 : I (fun _ => False) [] W1 := hI _ _ _ _ h0 (by rw [← hW1]; exact Stp.of_below (((Below.refl _ w).alloc (Nat.le_refl _) _).alloc (by simp) _))
  have stL : ∀ (W : World) (o : Obj), Stp (fun k => k = w.heap.size ∨ k = w.heap.size + 1) W (W.putObj (w.heap.size + 1) o) := fun W o => Stp.grown (grownBy_putObj' W _ o) fun r e => by cases e; exact .inl (.inr rfl)
  have hs1 : W1.heap.size = w.heap.size + 2 := by rw [← hW1]; simp
  have hb1 : Below w0.heap.size w0 W1 := by
    rw [← hW1]; exact hb0.trans ((((Below.refl _ w).alloc (Nat.le_refl _) _).alloc (by simp) _).mono hb0.size)
  -- the two blocks lie outside of the iterator's
  obtain ⟨Far, hFar⟩ : ∃ Far : (Nat → Prop) → Prop, Far = fun O => ¬ O w.heap.size ∧ ¬ O (w.heap.size + 1) := ⟨_, rfl⟩
  have far : ∀ {O O' : Nat → Prop} {W W' : World}, Far O → Stp O W W' → w.heap.size + 2 ≤ W.heap.size → (∀ k, k < W.heap.size → O' k → O k) → Far O' := by
    intro O O' W W' h _ hz hO
    rw [hFar] at h ⊢
    exact ⟨fun e => h.1 (hO _ (by omega) e), fun e => h.2 (hO _ (by omega) e)⟩
  have stay : ∀ {r : Loop} {O : Nat → Prop} {W W' : World}, Laid w r W → Far O → Stp O W W' → Laid w r W' := by
    intro r O W W' hl hf hs
    rw [hFar] at hf
    exact ⟨(hs.block _ (Array.getElem?_eq_some_iff.1 hl.1).1 hf.2).trans hl.1, (hs.block _ (Array.getElem?_eq_some_iff.1 hl.2).1 hf.1).trans hl.2⟩
  have two : ∀ {r : Loop} {W : World}, Laid w r W → w.heap.size + 2 ≤ W.heap.size := fun h => by have := (Array.getElem?_eq_some_iff.1 h.1).1; omega
  have put : ∀ {r : Loop} (r' : Loop) {O : Nat → Prop} {W : World}, Far O → Laid w r W → Kq O B W (W.putObj (w.heap.size + 1) (.loop r')) := by
    intro r r' O W hf h
    have hz := two h
    rw [hFar] at hf
    have hg := grownBy_putObj' W (w.heap.size + 1) (.loop r')
    refine ⟨(Below.refl _ _).grown hg (by omega) (fun k e => by cases e; omega), fun k hk => ?_⟩
    exact World.putObj_heap_other (fun e => hf.2 (by rw [← e]; exact hk))
  refine ⟨w.heap.size + 1, [{ target := .collected w.heap.size, args := #[] }], W1, { target := .fn (.func gf) lb, args := #[.func (.yield (w.heap.size + 1)) #[] #[]] }, W1, gf, #[.func (.yield (w.heap.size + 1)) #[] #[]] ++ lb, W1, ?_, ?_, ?_, ?_, fun _ => h1, ?_⟩
  · rw [← hW1, hR]; exact run_enterLoop_outer _ _ _ _ _
  · simp only [resolve, hg]; simp [go_sem]
  · exact fun _ _ => trivial
  · simp [invoke, go_sem, eg]
  refine (hseq (w.heap.size + 1) (fun O pre W => I O pre W ∧ Laid w (R .ready none) W ∧ Far O) (fun O pre W => ∃ c, Ix c O pre W ∧ Laid w (R .done (some c)) W ∧ Far O) W1 hb1
    (fun O O' s X Y hs hc hO => ⟨hIc O O' s X Y hs.1 hc hO, stay hs.2.1 hs.2.2 hc, far hs.2.2 hc (two hs.2.1) hO⟩) (fun O O' s X Y ⟨c, hs, hl, hf⟩ hc hO => ⟨c, hIxc c O O' s X Y hs hc hO, stay hl hf hc, far hf hc (two hl) hO⟩) ?_ ⟨hI1, hL1, by rw [hFar]; exact ⟨id, id⟩⟩).mono ?_
  · rintro O pre x W ⟨hi, hl, hf⟩ hOW hsW _ hlen
    have hy := run_yield (P := P) (args := encs x) hl.1 (by rw [hR]; exact hps x)
    rw [hR] at hy
    have hOw : ∀ k, O k → w.heap.size ≤ k ∧ k < W.heap.size := fun k hk => ⟨by have := (hOW k hk).1; omega, (hOW k hk).2⟩
    refine ⟨fn, _, assign, body, hy, roundIn_of_wpIn hfn (hassign _ O pre x W _ hi hlen (by omega) hOw ?_)⟩
    clear hy
    intro a' X hkX hpX hiX hax
    have hlX := hl.from hkX
    refine ⟨_, run_beginRound hlX.1 (by rw [hR]), ?_⟩
    have hlB := hlX.put { R .ready none with state := .busy }
    have hiB := hI O _ _ _ hiX (stL X (.loop { R .ready none with state := .busy }))
    have haB := (hAx O pre x a').putObj (s := ()) (.loop { R .ready none with state := .busy }) hax (by omega) hlX.1 rfl
    have hpB := Kq.t hpX (put { R .ready none with state := .busy } hf hlX)
    have hszB := hpX.below.size
    refine wpIn_mono (hbody _ O pre x a' _ (by omega) hiB (by simp; omega) (fun k hk => ⟨(hOw k hk).1, by have := (hOw k hk).2; simp; omega⟩) haB) ?_
    have stop : ∀ (c : Code) (W3 : World), KeepsFrom w.heap.size (X.putObj (w.heap.size + 1) (.loop { R .ready none with state := .busy })) W3 → (Ix c O (pre ++ [x]) W3 ∧ Kq O B (X.putObj (w.heap.size + 1) (.loop { R .ready none with state := .busy })) W3) →
        ∃ v w', (Instr.endRound (w.heap.size + 1) (some c)).run P W3 = .ok v w' ∧ (((.returned v : Ending) = .returned (.bool true) ∧ (I O (pre ++ [x]) w' ∧ Laid w (R .ready none) w' ∧ Far O) ∧ Kq O B W w') ∨ ((.returned v : Ending) = .returned (.bool false) ∧ (∃ c, Ix c O (pre ++ [x]) w' ∧ Laid w (R .done (some c)) w' ∧ Far O) ∧ Kq O B W w')) := by
      rintro c W3 hk3 ⟨hi3, hq3⟩
      have hl3 := hlB.from hk3
      have he := run_endRound (P := P) (some c) hl3.1
      refine ⟨_, _, he, .inr ⟨rfl, ⟨c, hIx c O _ _ _ hi3 (stL W3 _), ?_, hf⟩, Kq.t (Kq.t hpB hq3) (put _ hf hl3)⟩⟩
      have := hl3.put (R .done (some c))
      rw [hR] at this ⊢
      exact this
    rintro e a3 W3 hp
    cases e with
    | normal =>
      obtain ⟨hk3, hp3, hi3⟩ := hp
      have hl3 := hlB.from hk3
      have he := run_endRound (P := P) none hl3.1
      refine ⟨_, _, he, .inl ⟨rfl, ⟨hI O _ _ _ hi3 (stL W3 _), ?_, hf⟩, Kq.t (Kq.t hpB hp3) (put _ hf hl3)⟩⟩
      have := hl3.put (R .ready none)
      rw [hR] at this ⊢
      exact this
    | ret => exact stop .ret W3 hp.1 hp.2
    | exit id => exact stop (.exit id) W3 hp.1 hp.2
    | goto t => exact stop (.goto t) W3 hp.1 hp.2
    | panic ch => exact hp.elim
    | outgrown => exact hp.elim
  · rintro e W2 ⟨⟨v, rfl⟩, (⟨xs, O, hS, hi, hl, _⟩ | ⟨pre, O, hSp, c, hi, hl, _⟩)⟩
    · have he := run_endLoop (P := P) hl.1 (by rw [hR]; simp)
      rw [hR] at he
      exact ⟨none, _, he, hdone _ O xs _ (Nat.le_refl _) hS (hI O _ _ _ hi (stL W2 _)) rfl ((World.putObj_heap_other (by omega)).trans hl.2)⟩
    · have he := run_endLoop (P := P) hl.1 (by rw [hR]; simp)
      rw [hR] at he
      exact ⟨some c, _, he, hstop _ c O pre _ (Nat.le_refl _) hSp (hIx c O _ _ _ hi (stL W2 _)) rfl ((World.putObj_heap_other (by omega)).trans hl.2)⟩
end Go.Proofs.Ytfoangiphbmipaa
