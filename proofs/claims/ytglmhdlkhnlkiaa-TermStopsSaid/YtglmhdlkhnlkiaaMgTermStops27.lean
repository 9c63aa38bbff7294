/- Texts of one proof, one behind the other. -/
import Derived.Test.YtglmhdlkhnlkiaaMgTermStops26
import Derived.Test.YtglmhdlkhnlkiaaMgTermStops9
/- TermApplies. -/
namespace Go.Proofs.Ytglmhdlkhnlkiaa
open Go.RowKit Go.Shelf
attribute [local go_sem] Oper.semAt_some

theorem eimg_refl (f : Fo) : Img idn f f := by
  induction f with
  | nil => trivial
  | cons k n u ps r ih1 ih2 => simp only [Img, nm_id]; exact ⟨trivial, trivial, ih1, ih2⟩
theorem eimg_two {f g h : Fo} (a : Img idn f g) (b : Img idn f h) : g.same h = true := by
  induction f generalizing g h with
  | nil => cases g <;> cases h <;> simp_all [Img, Fo.same]
  | cons k n u ps r ih1 ih2 =>
    cases g with
    | nil => simp [Img] at a
    | cons k' n' u' ps' r' =>
      cases h with
      | nil => simp [Img] at b
      | cons k2 n2 u2 ps2 r2 =>
        simp only [Img, nm_id] at a b
        obtain ⟨rfl, rfl, a3, a4⟩ := a
        obtain ⟨rfl, rfl, b3, b4⟩ := b
        simp [Fo.same, ih1 a3 b3, ih2 a4 b4]
theorem ndI_refl (x : Nd) : NdI x x := ⟨rfl, rfl, rfl, rfl, rfl, eimg_refl _, rfl, rfl⟩
theorem timg_refl (f : Te) : TImg f f := by
  induction f with
  | nil => trivial
  | cons x ps r ih1 ih2 => exact ⟨ndI_refl x, ih1, ih2⟩
theorem ndI_two {x y z : Nd} (a : NdI x y) (b : NdI x z) : ndE true y z = true := by
  obtain ⟨a1, a2, a3, a4, a5, a6, a7, a8⟩ := a
  obtain ⟨b1, b2, b3, b4, b5, b6, b7, b8⟩ := b
  simp [ndE, a1, a2, a3, a4, a5, a7, a8, b1, b2, b3, b4, b5, b7, b8, eimg_two a6 b6]
theorem timg_two {f g h : Te} (a : TImg f g) (b : TImg f h) : g.same true h = true := by
  induction f generalizing g h with
  | nil => cases g <;> cases h <;> simp_all [TImg, Te.same]
  | cons x ps r ih1 ih2 =>
    cases g with
    | nil => simp [TImg] at a
    | cons y ps' r' =>
      cases h with
      | nil => simp [TImg] at b
      | cons z ps2 r2 =>
        simp only [TImg] at a b
        simp [Te.same, ndI_two a.1 b.1, ih1 a.2.1 b.2.1, ih2 a.2.2 b.2.2]
theorem ndI_tys {x y : Nd} {N : Nat} (h : NdI x y) (k : x.ty.size ≤ N) : y.ty.size ≤ N := by rw [Img.size h.2.2.2.2.2.1]; exact k
theorem timg_tys {f g : Te} {N : Nat} (h : TImg f g) (k : f.all fun x => x.ty.size ≤ N) : g.all fun x => x.ty.size ≤ N := by
  induction f generalizing g with
  | nil => cases g <;> simp_all [TImg, Te.all]
  | cons x ps r ih1 ih2 =>
    cases g with
    | nil => simp [TImg] at h
    | cons y ps' r' => exact ⟨ndI_tys h.1 k.1, ih1 h.2.1 k.2.1, ih2 h.2.2 k.2.2⟩
theorem Te.all_mono {P Q : Nd → Prop} {f : Te} (h : f.all P) (k : ∀ x, P x → Q x) : f.all Q := by
  induction f with
  | nil => trivial
  | cons x ps r ih1 ih2 => exact ⟨k _ h.1, ih1 h.2.1, ih2 h.2.2⟩
theorem Te.all_top {P : Nd → Prop} {f : Te} (h : f.all P) : ∀ t ∈ f.top, P t.1 ∧ t.2.all P := by
  induction f with
  | nil => intro t ht; cases ht
  | cons x ps r _ ih =>
    intro t ht
    simp only [Te.top, List.mem_cons] at ht
    rcases ht with rfl | ht
    · exact ⟨h.1, h.2.1⟩
    · exact ih h.2.2 t ht
def msum (l : List Tm) : Nat := (l.map fun t => t.2.size + 2).sum
theorem msum_top (f : Te) : msum f.top ≤ 2 * f.size := by
  induction f with
  | nil => simp [msum, Te.top]
  | cons x ps r _ ih => simp only [msum, Te.top, List.map_cons, List.sum_cons, Te.size] at ih ⊢; omega
theorem foldl_size (l : List Tm) (a : Tm) : (l.foldl ap2 a).2.size ≤ a.2.size + msum l := by
  induction l generalizing a with
  | nil => simp [msum]
  | cons t r ih =>
    have := ih (ap2 a t)
    simp only [List.foldl_cons, msum, List.map_cons, List.sum_cons] at this ⊢
    simp only [ap2, Te.size] at this ⊢
    omega
theorem applT_size (f : Te) : (applT f.top).2.size ≤ 2 * f.size := by
  cases f with
  | nil => simp [applT, Te.top, Te.size]
  | cons x ps r =>
    have h1 := foldl_size r.top (x, ps)
    have h2 := msum_top r
    simp only [applT, Te.top, Te.size] at h1 ⊢
    omega
theorem foldl_all {P : Nd → Prop} (l : List Tm) (a : Tm) (h5 : P nd5) (ha : P a.1 ∧ a.2.all P) (hl : ∀ t ∈ l, P t.1 ∧ t.2.all P) : P (l.foldl ap2 a).1 ∧ (l.foldl ap2 a).2.all P := by
  induction l generalizing a with
  | nil => exact ha
  | cons t r ih =>
    have ht := hl t List.mem_cons_self
    exact ih (ap2 a t) ⟨h5, ha.1, ha.2, ht.1, ht.2, trivial⟩ fun t ht => hl t (List.mem_cons_of_mem _ ht)
theorem applT_all {P : Nd → Prop} (f : Te) (h5 : P nd5) (h0 : P nd0) (hf : f.all P) : P (applT f.top).1 ∧ (applT f.top).2.all P := by
  cases f with
  | nil => exact ⟨h0, trivial⟩
  | cons x ps r => exact foldl_all r.top (x, ps) h5 ⟨hf.1, hf.2.1⟩ (Te.all_top hf.2.2)
/-- What the law has put together: it hangs on no box of its own. -/
def WantIs (w0 : World) (a : Tm) (W : World) : Prop :=
  ∃ (y : Nd) (g : Te), NdI a.1 y ∧ TImg a.2 g ∧ W.heap[w0.heap.size]? = some (Obj.cells (ndC y).toArray 29) ∧ ∀ W' : World, W.heap.size ≤ W'.heap.size → (∀ k, k ≠ w0.heap.size → k < W.heap.size → W'.heap[k]? = W.heap[k]?) → TmL W'.heap.size W' (y, g)
theorem WantIs.below {w0 : World} {a : Tm} {W W' : World} (h : WantIs w0 a W) (hb : Below W.heap.size W W') : WantIs w0 a W' := by
  obtain ⟨y, g, h1, h2, h3, h4⟩ := h
  exact ⟨y, g, h1, h2, (hb.block _ (Array.getElem?_eq_some_iff.1 h3).1).trans h3, fun W2 hs hk => h4 W2 (Nat.le_trans hb.size hs) fun k h5 h6 => (hk k h5 (Nat.lt_of_lt_of_le h6 hb.size)).trans (hb.block k h6)⟩
theorem TmL.aside {w0 W W' : World} {t : Tm} (h : TmL w0.heap.size w0 t) (hb : Below w0.heap.size w0 W) (hs : W.heap.size ≤ W'.heap.size) (hk : ∀ k, k ≠ w0.heap.size → k < W.heap.size → W'.heap[k]? = W.heap[k]?) : TmL W'.heap.size W' t :=
  h.keep (Nat.le_trans hb.size hs) fun b off hlt => World.cell?_of_block ((hk b (by omega) (Nat.lt_of_lt_of_le hlt hb.size)).trans (hb.block b hlt))
set_option maxHeartbeats 8000000 in
set_option maxRecDepth 100000 in
theorem tapplies_law (w : World) (F : Te) (v : Value) (hF : TeV w.heap.size w F v) :
    Calls Try.prog 6 #[v] w fun e w' => e = .returned (.bool true) ∧ Below w.heap.size w w' := by
  obtain ⟨A, c, rfl⟩ := hF.slice
  obtain ⟨q, hq⟩ : ∃ q, F.len = q := ⟨_, rfl⟩
  have HF := Lib.hid hF
  have HQ := Lib.hid hq
  have HA := Lib.hid (show ∀ W, Calls Try.prog 8 #[] W fun e w' => e = .returned (.bool true) ∧ Below W.heap.size W w' from awake05_any)
  rw [hq]
  clear hF hq
  by_cases h12 : (12 : Int) < q
  · go_enter Try.func6, Try.ntmps6
    go_wp2_with fail
    refine (HA.out _).mono ?_
    rintro e w1 ⟨rfl, hb1⟩
    go_wp2_with fail
    go_ret
    exact ⟨rfl, hb1⟩
  have hq12 : q ≤ 12 := by omega
  obtain ⟨w1, hw1⟩ : ∃ w1, w.alloc (Obj.cells #[.int .i64 0, .string ⟨#[]⟩, .int .i64 0, .int .i64 0, .int .i64 0, .slice none 0 0, .slice none 0 0, .int .i64 0, .int .i64 0] 29) = w1 := ⟨_, rfl⟩
  have hb1 : Below w.heap.size w w1 := by rw [← hw1]; exact (Below.refl _ _).alloc (Nat.le_refl _) _
  have hs1 : w1.heap.size = w.heap.size + 1 := by rw [← hw1]; simp
  have hk1 : w1.heap[w.heap.size]? = some (Obj.cells #[.int .i64 0, .string ⟨#[]⟩, .int .i64 0, .int .i64 0, .int .i64 0, .slice none 0 0, .slice none 0 0, .int .i64 0, .int .i64 0] 29) := by rw [← hw1]; exact heap_alloc_new _ _
  have hwant0 : WantIs w (applT (F.top.take 0)) w1 := ⟨nd0, .nil, ndI_refl _, trivial, hk1, fun _ _ _ => ⟨tyV_nil.2 ⟨none, 0, rfl⟩, teV_nil.2 ⟨none, 0, rfl⟩⟩⟩
  have HW1 := Lib.hid (And.intro hw1 (And.intro hb1 (And.intro hs1 hwant0)))
  clear hw1 hb1 hs1 hk1 hwant0
  go_enter Try.func6, Try.ntmps6
  go_wp2_with fail
  rw [HW1.out.1]
  go_loopw [4] (fun t4 wr => ∃ j : Nat, j ≤ q ∧ t4 = .int .i64 j ∧ WantIs w (applT (F.top.take j)) wr ∧ Below w.heap.size w wr ∧ w.heap.size + 1 ≤ wr.heap.size ∧ (F.take j).all OkN ∧ (F.take j).size ≤ 200 * j) (fun t _ => q - (intOf t).toNat)
  case atStart =>
    obtain ⟨_, h2, h3, h4⟩ := HW1.out
    exact ⟨0, Nat.zero_le _, rfl, h4, h2, by omega, by rw [Te.take_zero]; trivial, by rw [Te.take_zero]; simp [Te.size]⟩
  case round =>
    obtain ⟨j, hj, rfl, hwant, hb, hz, hok, hsz⟩ := hrel
    have HB := Lib.hid hb
    have HOK := Lib.hid (And.intro hok hsz)
    have HWN := Lib.hid hwant
    clear hok hsz hwant
    by_cases hjl : j < q
    · have hjf : j < F.len := by rw [HQ.out]; exact hjl
      obtain ⟨b, off, cap, hv, _, _, hlt, hC⟩ := HF.out.form (by omega)
      injection hv with hA hmid hcc
      clear hmid
      subst hA; subst hcc
      obtain ⟨n1, hch⟩ := teC_at hC j hjf
      have m1 := NdAt.below (B := w.heap.size) n1 hb hlt
      have hgr := egreat_any (F.at_ j).2 (F.at_ j).1 wr (hch.up hb hb.size)
      have HTOP := Lib.hid (Te.top_at F j hjf)
      have HTK := Lib.hid (And.intro (F.size_take_step j hjf) (fun h1 h2 h3 => Te.all_take (P := OkN) hjf h1 h2 h3))
      have HN1 := Lib.hid (And.intro n1 hch)
      clear n1 hC hch hb
      generalize F.at_ j = p at *
      obtain ⟨⟨y0, y1, y2, y3, y4, ⟨yu1, yu2, yu3⟩, y6, ⟨yv1, yv2, yv3⟩, y8, y9⟩, yp⟩ := p
      dsimp only [teVal, slv] at hgr
      obtain ⟨c0, c1, c2, c3, c4, c5, c6, c7, c8⟩ := m1
      dsimp only [slv] at c5 c6
      have HG := Lib.hid hgr
      clear hgr hjf
      go_wp2_with fail
      refine HG.out.mono ?_
      rintro e wg ⟨bg, rfl, hbg, hgo⟩
      have HBG := Lib.hid (show Below w.heap.size w wg from HB.out.trans (hbg.mono HB.out.size))
      have HWG := Lib.hid (HWN.out.below hbg)
      have HGO := Lib.hid hgo
      have hzg : w.heap.size + 1 ≤ wg.heap.size := by have := hbg.size; omega
      clear hbg hgo c0 c1 c2 c3 c4 c5 c6 c7 c8
      cases bg
      case true =>
        go_wp2_with fail
        refine (HA.out _).mono ?_
        rintro e w2 ⟨rfl, hb2⟩
        have HB2 := Lib.hid (HBG.out.trans (hb2.mono HBG.out.size))
        clear hb2
        go_wp2_with fail
        go_ret
        exact ⟨rfl, HB2.out⟩
      obtain ⟨hg1, hg2, hg3⟩ := HGO.out rfl
      have HNXT := Lib.hid (show (F.take (j + 1)).all OkN ∧ (F.take (j + 1)).size ≤ 200 * (j + 1) from ⟨HTK.out.2 HOK.out.1 hg2 hg3, by have h1 := HTK.out.1; have h2 := HOK.out.2; (try dsimp only at h1); (try dsimp only at hg1); omega⟩)
      obtain ⟨c0, c1, c2, c3, c4, c5, c6, c7, c8⟩ := NdAt.below (B := w.heap.size) HN1.out.1 HBG.out hlt
      dsimp only [slv] at c5 c6
      have HYL := Lib.hid HN1.out.2
      obtain ⟨y, g, hy1, hy2, hy3, hy4⟩ := HWG.out
      obtain ⟨a0, a1, a2, a3, a4, ⟨au1, au2, au3⟩, a6, ⟨av1, av2, av3⟩, a8, a9⟩ := y
      dsimp only [ndC, slv] at hy3
      have HYA := Lib.hid (And.intro hy1 (And.intro hy2 (And.intro hy3 hy4)))
      clear hy1 hy2 hy4 hg1 hg2 hg3
      by_cases hj0 : j = 0
      · subst hj0
        simp only [Nat.zero_mul, Nat.add_zero] at c0 c1 c2 c3 c4 c5 c6 c7 c8
        obtain ⟨d0, d1, d2, d3, d4, d5, d6, d7, d8⟩ : NdAt wg (w.heap.size) 0 ⟨a0, a1, a2, a3, a4, (au1, au2, au3), a6, (av1, av2, av3), a8, a9⟩ := NdAt.of_block (T := 29) hy3
        dsimp only [slv] at d5 d6
        simp only [Nat.zero_add] at d0 d1 d2 d3 d4 d5 d6 d7 d8
        have f0 := frozen_cells hy3 0
        have f1 := frozen_cells hy3 1
        have f2 := frozen_cells hy3 2
        have f3 := frozen_cells hy3 3
        have f4 := frozen_cells hy3 4
        have f5 := frozen_cells hy3 5
        have f6 := frozen_cells hy3 6
        have f7 := frozen_cells hy3 7
        have f8 := frozen_cells hy3 8
        obtain ⟨WF, hWF⟩ : ∃ WF, (((((((((wg.setCell ⟨w.heap.size, 0, none⟩ (.int .i64 y0)).setCell ⟨w.heap.size, 1, none⟩ (.string y1)).setCell ⟨w.heap.size, 2, none⟩ (.int .i64 y2)).setCell ⟨w.heap.size, 3, none⟩ (.int .i64 y3)).setCell ⟨w.heap.size, 4, none⟩ (.int .i64 y4)).setCell ⟨w.heap.size, 5, none⟩ (.slice yu1 yu2 yu3)).setCell ⟨w.heap.size, 6, none⟩ (.slice yv1 yv2 yv3)).setCell ⟨w.heap.size, 7, none⟩ (.int .i64 y8)).setCell ⟨w.heap.size, 8, none⟩ (.int .i64 y9)) = WF := ⟨_, rfl⟩
        have hwf := set9_block (g := w.heap.size) ⟨y0, y1, y2, y3, y4, (yu1, yu2, yu3), y6, (yv1, yv2, yv3), y8, y9⟩ hy3
        dsimp only [slv] at hwf
        rw [hWF] at hwf
        have HWF := Lib.hid hwf
        have hq0 : (0 : Int) < (q : Int) := by omega
        clear hwf hy3
        go_wp2_with fail
        go_roundw
        case rel =>
          obtain ⟨q1, q2, q3, q4⟩ := HWF.out
          have hbF := HBG.out.trans q4
          refine ⟨1, by omega, by go_num, ⟨⟨y0, y1, y2, y3, y4, (yu1, yu2, yu3), y6, (yv1, yv2, yv3), y8, y9⟩, yp, ?_, ?_, q1, fun W' hs' hk' => HYL.out.aside hbF hs' hk'⟩, hbF, by omega, HNXT.out.1, HNXT.out.2⟩
          · rw [show applT (F.top.take 1) = ((⟨y0, y1, y2, y3, y4, (yu1, yu2, yu3), y6, (yv1, yv2, yv3), y8, y9⟩ : Nd), yp) by rw [HTOP.out]; rfl]
            exact ndI_refl _
          · rw [show applT (F.top.take 1) = ((⟨y0, y1, y2, y3, y4, (yu1, yu2, yu3), y6, (yv1, yv2, yv3), y8, y9⟩ : Nd), yp) by rw [HTOP.out]; rfl]
            exact timg_refl _
        case measure => simp [intOf]; omega
      · have fj : ((j : Int) == 0) = false := beq_eq_false_iff_ne.2 (by omega)
        have HY3 := Lib.hid hy3
        clear hy3
        go_wp2_with fail
        obtain ⟨S0, hS0⟩ : ∃ S0 : World → Prop, S0 = fun W => NdAt W b (off + j * 9) ⟨y0, y1, y2, y3, y4, (yu1, yu2, yu3), y6, (yv1, yv2, yv3), y8, y9⟩ := ⟨_, rfl⟩
        have hS5 : S0 wg.drew := by rw [hS0]; exact ⟨c0, c1, c2, c3, c4, c5, c6, c7, c8⟩
        have EX := Lib.hid (show ∀ W, S0 W → NdAt W b (off + j * 9) ⟨y0, y1, y2, y3, y4, (yu1, yu2, yu3), y6, (yv1, yv2, yv3), y8, y9⟩ from fun W hW => by rw [hS0] at hW; exact hW)
        have SS := Lib.hid hS0
        clear hS0 c0 c1 c2 c3 c4 c5 c6 c7 c8
        have hjj : (j : Int) < (q : Int) := by omega
        have hjj0 : (0 : Int) ≤ (j : Int) := by omega
        refine wp_region_held (S := S0) (by kernel_rfl) ?_
        change wpAnyH _ _ _ _ _ 8 (List.replicate 8 false).toArray _ wg.drew
        simp only [List.replicate_succ, List.replicate_zero]
        refine any_take (i := 1) (some 28) (.slice (some ⟨b, off, none⟩) q c) rfl (by rfl) (by kernel_rfl) (by kernel_rfl) (by kernel_rfl) (fun _ _ _ h => h) (Or.inl ⟨by kernel_rfl, (fun W hw => by clear hw; go_simp)⟩) hS5 ?_
        simp only [Act.put, List.setIfInBounds_toArray, List.set_cons_zero, List.set_cons_succ]
        refine any_take (i := 2) (some 29) (.int .i64 j) rfl (by rfl) (by kernel_rfl) (by kernel_rfl) (by kernel_rfl) (fun _ _ _ h => h) (Or.inl ⟨by kernel_rfl, (fun W hw => by clear hw; go_simp)⟩) hS5 ?_
        simp only [Act.put, List.setIfInBounds_toArray, List.set_cons_zero, List.set_cons_succ]
        refine any_take (i := 3) (some 30) (.pointer (some ⟨b, off + j * 9, none⟩)) rfl (by rfl) (by kernel_rfl) (by kernel_rfl) (by kernel_rfl) (fun _ _ _ h => h) (Or.inl ⟨by kernel_rfl, (fun W hw => by clear hw; go_simp)⟩) hS5 ?_
        simp only [Act.put, List.setIfInBounds_toArray, List.set_cons_zero, List.set_cons_succ]
        refine any_take (i := 4) (some 31) (.agg #[.int .i64 y0, .string y1, .int .i64 y2, .int .i64 y3, .int .i64 y4, .slice yu1 yu2 yu3, .slice yv1 yv2 yv3, .int .i64 y8, .int .i64 y9]) rfl (by rfl) (by kernel_rfl) (by kernel_rfl) (by kernel_rfl) (fun _ _ _ h => h) (Or.inl ⟨by kernel_rfl, (fun W hw => by obtain ⟨c0, c1, c2, c3, c4, c5, c6, c7, c8⟩ := EX.out W hw; dsimp only [slv] at c5 c6; clear hw; go_simp)⟩) hS5 ?_
        simp only [Act.put, List.setIfInBounds_toArray, List.set_cons_zero, List.set_cons_succ]
        obtain ⟨d0, d1, d2, d3, d4, d5, d6, d7, d8⟩ : NdAt wg.drew (w.heap.size) 0 ⟨a0, a1, a2, a3, a4, (au1, au2, au3), a6, (av1, av2, av3), a8, a9⟩ := NdAt.of_block (T := 29) HY3.out
        dsimp only [slv] at d5 d6
        simp only [Nat.zero_add] at d0 d1 d2 d3 d4 d5 d6 d7 d8
        refine wpAnyH_all (rs := [0]) (by kernel_rfl) (by simp) fun q' hq' => ?_
        obtain rfl : q' = 0 := by simpa using hq'
        refine ops_val (d := some 27) (v := .agg #[.int .i64 a0, .string a1, .int .i64 a2, .int .i64 a3, .int .i64 a4, .slice au1 au2 au3, .slice av1 av2 av3, .int .i64 a8, .int .i64 a9]) rfl (by rfl) (by kernel_rfl) (by go_simp) hS5 ?_
        simp only [Act.put, List.setIfInBounds_toArray, List.set_cons_zero, List.set_cons_succ]
        clear d0 d1 d2 d3 d4 d5 d6 d7 d8
        obtain ⟨w7, hw7⟩ : ∃ w7, wg.drew.alloc (Obj.cells #[.int .i64 a0, .string a1, .int .i64 a2, .int .i64 a3, .int .i64 a4, .slice au1 au2 au3, .slice av1 av2 av3, .int .i64 a8, .int .i64 a9, .int .i64 y0, .string y1, .int .i64 y2, .int .i64 y3, .int .i64 y4, .slice yu1 yu2 yu3, .slice yv1 yv2 yv3, .int .i64 y8, .int .i64 y9] 29) = w7 := ⟨_, rfl⟩
        have hb67 : Below wg.heap.size wg w7 := by rw [← hw7]; exact (Below.refl _ wg).drew.alloc (Nat.le_refl _) _
        have hs7 : w7.heap.size = wg.heap.size + 1 := by rw [← hw7]; simp
        have hS7 : S0 w7 := by
          rw [SS.out] at hS5 ⊢
          exact NdAt.below (w := wg.drew) (B := wg.heap.size) hS5 (by rw [← hw7]; exact (Below.refl wg.heap.size wg.drew).alloc (Nat.le_refl _) _) (by have := HBG.out.size; omega)
        have hh7 : w7.heap[wg.heap.size]? = some (Obj.cells #[.int .i64 a0, .string a1, .int .i64 a2, .int .i64 a3, .int .i64 a4, .slice au1 au2 au3, .slice av1 av2 av3, .int .i64 a8, .int .i64 a9, .int .i64 y0, .string y1, .int .i64 y2, .int .i64 y3, .int .i64 y4, .slice yu1 yu2 yu3, .slice yv1 yv2 yv3, .int .i64 y8, .int .i64 y9] 29) := by rw [← hw7]; exact heap_alloc_new _ _
        have hbx7 := (hb67.block _ (Array.getElem?_eq_some_iff.1 HY3.out).1).trans HY3.out
        obtain ⟨e0, e1, e2, e3, e4, e5, e6, e7, e8⟩ : NdAt w7 (w.heap.size) 0 ⟨a0, a1, a2, a3, a4, (au1, au2, au3), a6, (av1, av2, av3), a8, a9⟩ := NdAt.of_block (T := 29) hbx7
        dsimp only [slv] at e5 e6
        simp only [Nat.zero_add] at e0 e1 e2 e3 e4 e5 e6 e7 e8
        have f0 := frozen_cells hbx7 0
        have f1 := frozen_cells hbx7 1
        have f2 := frozen_cells hbx7 2
        have f3 := frozen_cells hbx7 3
        have f4 := frozen_cells hbx7 4
        have f5 := frozen_cells hbx7 5
        have f6 := frozen_cells hbx7 6
        have f7 := frozen_cells hbx7 7
        have f8 := frozen_cells hbx7 8
        obtain ⟨WF, hWF⟩ : ∃ WF, (((((((((w7.setCell ⟨w.heap.size, 0, none⟩ (.int .i64 5)).setCell ⟨w.heap.size, 1, none⟩ (.string ⟨#[]⟩)).setCell ⟨w.heap.size, 2, none⟩ (.int .i64 0)).setCell ⟨w.heap.size, 3, none⟩ (.int .i64 0)).setCell ⟨w.heap.size, 4, none⟩ (.int .i64 0)).setCell ⟨w.heap.size, 5, none⟩ (.slice none 0 0)).setCell ⟨w.heap.size, 6, none⟩ (.slice (some ⟨wg.heap.size, 0, none⟩) 2 2)).setCell ⟨w.heap.size, 7, none⟩ (.int .i64 0)).setCell ⟨w.heap.size, 8, none⟩ (.int .i64 0)) = WF := ⟨_, rfl⟩
        have hwf := set9_block (g := w.heap.size) ⟨5, ⟨#[]⟩, 0, 0, 0, (none, 0, 0), .nil, (some ⟨wg.heap.size, 0, none⟩, 2, 2), 0, 0⟩ hbx7
        dsimp only [slv] at hwf
        rw [hWF] at hwf
        have hS8 : S0 WF := by
          rw [SS.out] at hS7 ⊢
          exact NdAt.below (B := w.heap.size) hS7 (hwf.2.2.2.mono (by omega)) hlt
        have HWF := Lib.hid (And.intro hwf (And.intro hb67 (And.intro hs7 hh7)))
        have HW7 := Lib.hid hw7
        have HWFE := Lib.hid hWF
        clear hwf hb67 hs7 hh7 hbx7 hw7 hWF
        refine wpAnyH_all (rs := [5]) (by kernel_rfl) (by simp) fun q' hq' => ?_
        obtain rfl : q' = 5 := by simpa using hq'
        refine ops_val (d := some 32) (v := .slice (some ⟨wg.heap.size, 0, none⟩) 2 2) (w' := w7) rfl (by rfl) (by kernel_rfl) (by rw [← HW7.out]; go_simp) hS7 ?_
        simp only [Act.put, List.setIfInBounds_toArray, List.set_cons_zero, List.set_cons_succ]
        refine wpAnyH_all (rs := [6]) (by kernel_rfl) (by simp) fun q' hq' => ?_
        obtain rfl : q' = 6 := by simpa using hq'
        refine ops_val (d := some 33) (v := .agg #[.int .i64 5, .string ⟨#[]⟩, .int .i64 0, .int .i64 0, .int .i64 0, .slice none 0 0, .slice (some ⟨wg.heap.size, 0, none⟩) 2 2, .int .i64 0, .int .i64 0]) (w' := w7) rfl (by rfl) (by kernel_rfl) (by go_simp) hS7 ?_
        simp only [Act.put, List.setIfInBounds_toArray, List.set_cons_zero, List.set_cons_succ]
        refine wpAnyH_all (rs := [7]) (by kernel_rfl) (by simp) fun q' hq' => ?_
        obtain rfl : q' = 7 := by simpa using hq'
        refine ops_skip (w' := WF) rfl (by kernel_rfl) (by rw [← HWFE.out]; go_simp) hS8 rfl ?_
        clear e0 e1 e2 e3 e4 e5 e6 e7 e8 f0 f1 f2 f3 f4 f5 f6 f7 f8
        refine wpAnyH_done (by kernel_rfl) ?_ _
        go_wp2_with fail
        go_roundw
        case rel =>
          obtain ⟨⟨q1, q2, q3, q4⟩, hb67, hs7, hh7⟩ := HWF.out
          obtain ⟨hy1, hy2, _, hy4⟩ := HYA.out
          have hbF : Below w.heap.size w WF := HBG.out.trans ((hb67.mono HBG.out.size).trans q4)
          have hap : applT (F.top.take (j + 1)) = ap2 (applT (F.top.take j)) ((⟨y0, y1, y2, y3, y4, (yu1, yu2, yu3), y6, (yv1, yv2, yv3), y8, y9⟩ : Nd), yp) := by
            rw [HTOP.out, applT_snoc _ _ (fun e => ?_)]
            have := congrArg List.length e
            rw [List.length_take, Te.top_len, HQ.out, List.length_nil] at this
            omega
          have hhF : WF.heap[wg.heap.size]? = some (Obj.cells #[.int .i64 a0, .string a1, .int .i64 a2, .int .i64 a3, .int .i64 a4, .slice au1 au2 au3, .slice av1 av2 av3, .int .i64 a8, .int .i64 a9, .int .i64 y0, .string y1, .int .i64 y2, .int .i64 y3, .int .i64 y4, .slice yu1 yu2 yu3, .slice yv1 yv2 yv3, .int .i64 y8, .int .i64 y9] 29) := (q3 _ (by omega)).trans hh7
          have hkeep : ∀ k, k ≠ w.heap.size → k < wg.heap.size → WF.heap[k]? = wg.heap[k]? := fun k h1 h2 => (q3 k h1).trans (hb67.block k h2)
          refine ⟨j + 1, by omega, by go_num, ⟨⟨5, ⟨#[]⟩, 0, 0, 0, (none, 0, 0), .nil, (some ⟨wg.heap.size, 0, none⟩, 2, 2), 0, 0⟩, .cons ⟨a0, a1, a2, a3, a4, (au1, au2, au3), a6, (av1, av2, av3), a8, a9⟩ g (.cons ⟨y0, y1, y2, y3, y4, (yu1, yu2, yu3), y6, (yv1, yv2, yv3), y8, y9⟩ yp .nil), ?_, ?_, q1, fun W' hs' hk' => ⟨tyV_nil.2 ⟨none, 0, rfl⟩, ?_⟩⟩, hbF, by omega, HNXT.out.1, HNXT.out.2⟩
          · rw [hap]; exact ⟨rfl, rfl, rfl, rfl, rfl, trivial, rfl, rfl⟩
          · rw [hap]; exact ⟨hy1, hy2, ndI_refl _, timg_refl _, trivial⟩
          · have hTa : TmL W'.heap.size W' (⟨a0, a1, a2, a3, a4, (au1, au2, au3), a6, (av1, av2, av3), a8, a9⟩, g) := hy4 W' (by omega) fun k h1 h2 => (hk' k h1 (by omega)).trans (hkeep k h1 h2)
            have hTy : TmL W'.heap.size W' (⟨y0, y1, y2, y3, y4, (yu1, yu2, yu3), y6, (yv1, yv2, yv3), y8, y9⟩, yp) := HYL.out.aside hbF hs' hk'
            have hhW := (hk' wg.heap.size (by omega) (by omega)).trans hhF
            exact teV_cons.2 ⟨wg.heap.size, 0, 2, rfl, by simp [Te.len], by unfold maxLen; omega, by omega, teC_cons.2 ⟨⟨cell_of_row W' _ 0 _ _ (0, 0) hhW, cell_of_row W' _ 1 _ _ (0, 0) hhW, cell_of_row W' _ 2 _ _ (0, 0) hhW, cell_of_row W' _ 3 _ _ (0, 0) hhW, cell_of_row W' _ 4 _ _ (0, 0) hhW, cell_of_row W' _ 5 _ _ (0, 0) hhW, cell_of_row W' _ 6 _ _ (0, 0) hhW, cell_of_row W' _ 7 _ _ (0, 0) hhW, cell_of_row W' _ 8 _ _ (0, 0) hhW⟩, hTa.1, hTa.2, teC_cons.2 ⟨⟨cell_of_row W' _ 9 _ _ (0, 0) hhW, cell_of_row W' _ 10 _ _ (0, 0) hhW, cell_of_row W' _ 11 _ _ (0, 0) hhW, cell_of_row W' _ 12 _ _ (0, 0) hhW, cell_of_row W' _ 13 _ _ (0, 0) hhW, cell_of_row W' _ 14 _ _ (0, 0) hhW, cell_of_row W' _ 15 _ _ (0, 0) hhW, cell_of_row W' _ 16 _ _ (0, 0) hhW, cell_of_row W' _ 17 _ _ (0, 0) hhW⟩, hTy.1, hTy.2, teC_nil⟩⟩⟩
        case measure => simp [intOf]; omega
    · obtain rfl : j = q := by omega
      have htk : F.take j = F := by rw [← HQ.out]; exact F.take_len
      have htt : F.top.take j = F.top := by rw [← HQ.out, ← Te.top_len]; exact List.take_length
      obtain ⟨hok, hsz⟩ := HOK.out
      rw [htk] at hok hsz
      obtain ⟨y, g, hy1, hy2, hy3, hy4⟩ := HWN.out
      rw [htt] at hy1 hy2
      have hall := applT_all (P := fun x => x.ty.size ≤ 1000000) F (by simp [nd5, nd0, Fo.size]) (by simp [nd0, Fo.size]) (Te.all_mono hok fun x h => by have := h.2; omega)
      have hasz := applT_size F
      have hap := apply_any wr.drew F _ ((HF.out.up HB.out HB.out.size).below (Below.refl _ _).drew) (by rw [HQ.out]; omega) (by omega) (Te.all_tyb hok)
      have hyt := ndI_tys hy1 hall.1
      have hgt := timg_tys hy2 hall.2
      have hgs := hy2.size
      obtain ⟨a0, a1, a2, a3, a4, ⟨au1, au2, au3⟩, a6, ⟨av1, av2, av3⟩, a8, a9⟩ := y
      dsimp only [ndC, slv] at hy3
      rw [HQ.out] at hap
      have HAP := Lib.hid hap
      have HY := Lib.hid (And.intro hy1 (And.intro hy2 (And.intro hy3 (And.intro hy4 (And.intro hyt (And.intro hgt hgs))))))
      have HALL := Lib.hid (And.intro hall hasz)
      have HSZ := Lib.hid hsz
      obtain ⟨S0, hS0⟩ : ∃ S0 : World → Prop, S0 = fun W => W.heap[w.heap.size]? = some (Obj.cells #[.int .i64 a0, .string a1, .int .i64 a2, .int .i64 a3, .int .i64 a4, .slice au1 au2 au3, .slice av1 av2 av3, .int .i64 a8, .int .i64 a9] 29) := ⟨_, rfl⟩
      have hS5 : S0 wr.drew := by rw [hS0]; exact hy3
      have EX := Lib.hid (show ∀ W, S0 W → NdAt W w.heap.size 0 ⟨a0, a1, a2, a3, a4, (au1, au2, au3), a6, (av1, av2, av3), a8, a9⟩ from fun W hW => by rw [hS0] at hW; exact NdAt.of_block (T := 29) hW)
      have ST := Lib.hid (show ∀ W W', S0 W → Below W.heap.size W W' → S0 W' from fun W W' hW hb => by rw [hS0] at hW ⊢; exact (hb.block _ (Array.getElem?_eq_some_iff.1 hW).1).trans hW)
      clear hS0 hap hy1 hy2 hy3 hy4 hyt hgt hgs hall hasz hsz hok htk htt hb
      go_wp2_with fail
      refine wp_region_held (S := S0) (by kernel_rfl) ?_
      change wpAnyH _ _ _ _ _ 8 (List.replicate 8 false).toArray _ wr.drew
      simp only [List.replicate_succ, List.replicate_zero]
      refine any_take (i := 0) (some 34) (.slice A j c) rfl (by rfl) (by kernel_rfl) (by kernel_rfl) (by kernel_rfl) (fun _ _ _ h => h) (Or.inl ⟨by kernel_rfl, (fun W hw => by clear hw; go_simp)⟩) hS5 ?_
      simp only [Act.put, List.setIfInBounds_toArray, List.set_cons_zero, List.set_cons_succ]
      refine any_take (i := 2) (some 36) (.agg #[.int .i64 a0, .string a1, .int .i64 a2, .int .i64 a3, .int .i64 a4, .slice au1 au2 au3, .slice av1 av2 av3, .int .i64 a8, .int .i64 a9]) rfl (by rfl) (by kernel_rfl) (by kernel_rfl) (by kernel_rfl) (fun _ _ _ h => h) (Or.inl ⟨by kernel_rfl, (fun W hw => by obtain ⟨c0, c1, c2, c3, c4, c5, c6, c7, c8⟩ := EX.out W hw; dsimp only [slv] at c5 c6; simp only [Nat.zero_add] at c0 c1 c2 c3 c4 c5 c6 c7 c8; clear hw; go_simp)⟩) hS5 ?_
      simp only [Act.put, List.setIfInBounds_toArray, List.set_cons_zero, List.set_cons_succ]
      refine wpAnyH_all (rs := [1]) (by kernel_rfl) (by simp) fun q' hq' => ?_
      obtain rfl : q' = 1 := by simpa using hq'
      refine ops_call (d := some 35) rfl (by rfl) (by kernel_rfl) (by go_simp) (HAP.out.mono ?_)
      rintro e w2 ⟨hb2, ⟨u1, u2, u3⟩, ⟨s1, s2, s3⟩, rfl, hf2⟩
      have hS2 := ST.out _ _ hS5 hb2
      refine ⟨_, rfl, hS2, ?_⟩
      simp only [Act.put, List.setIfInBounds_toArray, List.set_cons_zero, List.set_cons_succ]
      obtain ⟨ty, g2, hty, hg2, hTy, hTe⟩ := hf2.now
      obtain ⟨hy1, hy2, hy3, hy4, hyt, hgt, hgs⟩ := HY.out
      obtain ⟨hall, hasz⟩ := HALL.out
      have hsz := HSZ.out
      have hbr2 : Below wr.heap.size wr w2 := (Below.refl wr.heap.size wr).drew.trans hb2
      have hTa := hy4 w2 hbr2.size fun k _ h2 => hbr2.block k h2
      have hxI : NdI (applT F.top).1 { (applT F.top).1 with tu := (u1, u2, u3), u := (s1, s2, s3), ty := ty } := ⟨rfl, rfl, rfl, rfl, rfl, hty, rfl, rfl⟩
      have heq := requal_any { (applT F.top).1 with tu := (u1, u2, u3), u := (s1, s2, s3), ty := ty } ⟨a0, a1, a2, a3, a4, (au1, au2, au3), a6, (av1, av2, av3), a8, a9⟩ g2 g w2 (by rw [hg2.size]; omega) (by omega) ⟨hTy, hTe⟩ hTa (ndI_tys hxI hall.1) hyt (timg_tys hg2 hall.2) hgt
      rw [ndI_two hxI hy1, timg_two hg2 hy2] at heq
      have HEQ := Lib.hid heq
      have HB2 := Lib.hid (show Below w.heap.size w w2 from HB.out.trans (hbr2.mono HB.out.size))
      clear heq hty hg2 hTy hTe hy1 hy2 hy3 hy4 hyt hgt hgs hall hasz hsz hTa hxI hf2 hb2 hbr2
      generalize (applT F.top).1 = nz at *
      obtain ⟨z0, z1, z2, z3, z4, ⟨zu1, zu2, zu3⟩, z6, ⟨zv1, zv2, zv3⟩, z8, z9⟩ := nz
      dsimp only [teVal, slv] at HEQ ⊢
      refine wpAnyH_all (rs := [3]) (by kernel_rfl) (by simp) fun q' hq' => ?_
      obtain rfl : q' = 3 := by simpa using hq'
      refine ops_call (d := some 37) rfl (by rfl) (by kernel_rfl) (by go_simp) (HEQ.out.mono ?_)
      rintro e w3 ⟨rfl, hb3⟩
      have hS3 := ST.out _ _ hS2 hb3
      refine ⟨_, rfl, hS3, ?_⟩
      simp only [Act.put, List.setIfInBounds_toArray, List.set_cons_zero, List.set_cons_succ]
      have HB3 := Lib.hid (HB2.out.trans (hb3.mono HB2.out.size))
      clear hb3
      refine any_take (i := 4) (some 38) (.bool true) rfl (by rfl) (by kernel_rfl) (by kernel_rfl) (by kernel_rfl) (fun _ _ _ h => h) (Or.inl ⟨by kernel_rfl, (fun W hw => by clear hw; go_simp)⟩) hS3 ?_
      simp only [Act.put, List.setIfInBounds_toArray, List.set_cons_zero, List.set_cons_succ]
      refine wpAnyH_all (rs := [5]) (by kernel_rfl) (by simp) fun q' hq' => ?_
      obtain rfl : q' = 5 := by simpa using hq'
      refine ops_call (d := some 39) rfl (by rfl) (by kernel_rfl) (by go_simp) ((HA.out _).mono ?_)
      rintro e w4 ⟨rfl, hb4⟩
      have hS4 := ST.out _ _ hS3 hb4
      refine ⟨_, rfl, hS4, ?_⟩
      simp only [Act.put, List.setIfInBounds_toArray, List.set_cons_zero, List.set_cons_succ]
      have HB4 := Lib.hid (HB3.out.trans (hb4.mono HB3.out.size))
      clear hb4
      refine any_take (i := 6) (some 40) (.bool true) rfl (by rfl) (by kernel_rfl) (by kernel_rfl) (by kernel_rfl) (fun _ _ _ h => h) (Or.inl ⟨by kernel_rfl, (fun W hw => by clear hw; go_simp)⟩) hS4 ?_
      simp only [Act.put, List.setIfInBounds_toArray, List.set_cons_zero, List.set_cons_succ]
      refine any_take (i := 7) (some 2) (.bool true) rfl (by rfl) (by kernel_rfl) (by kernel_rfl) (by kernel_rfl) (fun _ _ _ h => h) (Or.inl ⟨by kernel_rfl, (fun W hw => by clear hw; go_simp)⟩) hS4 ?_
      simp only [Act.put, List.setIfInBounds_toArray, List.set_cons_zero, List.set_cons_succ]
      refine wpAnyH_done (by kernel_rfl) ?_ _
      go_wp2_with fail
      go_ret
      exact ⟨rfl, HB4.out⟩
end Go.Proofs.Ytglmhdlkhnlkiaa
