/- Texts of one proof, one behind the other. -/
import Derived.Test.YtfoangiphbmipaaMgTermOrder12
import Derived.Test.YtfoangiphbmipaaMgTermOrder26
/- term.inOrder's iterator, the visitor keeping a set of blocks alone: the walk. -/
namespace Go.Proofs.Ytfoangiphbmipaa
open Go.RowKit Go.Shelf
attribute [local go_sem] Oper.semAt_some
attribute [local go_sem ↓] builtin_app

theorem tel_top {B : Nat} {w : World} {R : Te} (h : ∀ t ∈ R.top, TmL B w t) : TeL B w R := by
  induction R with
  | nil => trivial
  | cons x ps r _ ih => exact ⟨h (x, ps) (by simp [Te.top]), ih fun t ht => h t (by simp [Te.top, ht])⟩
theorem top_pre (R : Te) : ∀ t ∈ R.top, t ∈ R.pre := by
  induction R with
  | nil => intro t ht; cases ht
  | cons x ps r _ ih =>
    intro t ht
    simp only [Te.top, List.mem_cons] at ht
    simp only [Te.pre, List.mem_cons, List.mem_append]
    rcases ht with rfl | ht
    · exact .inl rfl
    · exact .inr (.inr (ih t ht))
/-- Whatever stands later on stands as the whole does. -/
theorem tel_sub {B : Nat} {w : World} {x : Nd} {ps R : Te} {pre : List Tm} (h : TmL B w (x, ps)) (hp : pre ++ R.pre = (Te.cons x ps .nil).pre) : TeL B w R :=
  tel_top fun t ht => TeL.pre (f := Te.cons x ps .nil) ⟨h, trivial⟩ t (by rw [← hp]; exact List.mem_append_right _ (top_pre R t ht))
/-- What stands between two rounds. -/
def OrX (W : World) (K : Nat → Prop) (f : Te) (J : (Nat → Prop) → List Tm → World → Prop) (t3 : Value) (rs : List Nat) (wr : World) (s : Nat) : Prop :=
  ∃ (bt : Nat) (v : Value) (R : Te) (pre : List Tm) (O : Nat → Prop), t3 = .pointer (some ⟨bt, 0, none⟩) ∧ R.size = s ∧ Boxed wr bt 25 v ∧ wr.ownsRow W.heap.size 29 9 v R.len (estk R) ∧ pre ++ R.pre = f.pre ∧ J O pre wr ∧
    O bt ∧ (∀ g, v.ownBlock = some g → O g) ∧ (∀ k, O k → W.heap.size ≤ k ∧ k < wr.heap.size) ∧ (∀ r ∈ rs, O r ∧ wr.heap[r]? = some (.deferred (some []))) ∧ rs.Nodup ∧ Kk K W wr
set_option maxRecDepth 100000 in
set_option maxHeartbeats 4000000 in
theorem orderX (n_ : Nat) (hn : 2 ≤ n_) (l Bs B : Nat) (x : Nd) (ps : Te) (hf : ps.size < 1000000) (J Jx : (Nat → Prop) → List Tm → World → Prop) (W : World) (hB : B ≤ W.heap.size) (K : Nat → Prop) (hKB : ∀ k, K k → k < B)
    (hJ : AbS J) (hJx : AbS Jx)
    (hY : ∀ O pre t W1, J O pre W1 → (∀ k, O k → W.heap.size ≤ k ∧ k < W1.heap.size) → W.heap.size ≤ W1.heap.size → Kk K W W1 → (∃ s, pre ++ t :: s = (Te.cons x ps .nil).pre) → YieldAt Fence.wide (n_ - 1) Try.prog l #[teVal t.1] W1 fun e W' =>
      (e = .returned (.bool true) ∧ J O (pre ++ [t]) W' ∧ Kx O K W1 W') ∨ (e = .returned (.bool false) ∧ Jx O (pre ++ [t]) W' ∧ Kx O K W1 W'))
    (hBs : W.heap[Bs]? = some (.cells (ndC x).toArray 29)) (hST : ∀ W', Kk K W W' → TmL B W' (x, ps)) (h0 : J (fun _ => False) [] W) :
    CallsIn Fence.wide n_ Try.prog 26 #[.func (.yield l) #[] #[], .pointer (some ⟨Bs, 0, none⟩)] W fun e W' => (∃ v, e = .returned v) ∧
      ((∃ (ys : List Tm) (O : Nat → Prop), ys = (Te.cons x ps .nil).pre ∧ J O ys W') ∨ (∃ (pre : List Tm) (O : Nat → Prop), (pre ≠ [] ∧ ∃ s, pre ++ s = (Te.cons x ps .nil).pre) ∧ Jx O pre W')) := by
  have hn1 : 1 ≤ n_ := by omega
  obtain ⟨x0, x1, x2, x3, x4, ⟨xu1, xu2, xu3⟩, x6, ⟨xv1, xv2, xv3⟩, x8, x9⟩ := x
  obtain ⟨X, hX⟩ : ∃ X : Nd, (⟨x0, x1, x2, x3, x4, (xu1, xu2, xu3), x6, (xv1, xv2, xv3), x8, x9⟩ : Nd) = X := ⟨_, rfl⟩
  obtain ⟨f, hfe⟩ : ∃ f, Te.cons X ps .nil = f := ⟨_, rfl⟩
  have hfs : f.size ≤ 1000000 := by rw [← hfe]; simp only [Te.size]; omega
  have d0 : W.cell? ⟨Bs, 0, none⟩ = some (.int .i64 x0) := cell_of_row W Bs 0 _ _ (0, 0) hBs
  have d1 : W.cell? ⟨Bs, 1, none⟩ = some (.string x1) := cell_of_row W Bs 1 _ _ (0, 0) hBs
  have d2 : W.cell? ⟨Bs, 2, none⟩ = some (.int .i64 x2) := cell_of_row W Bs 2 _ _ (0, 0) hBs
  have d3 : W.cell? ⟨Bs, 3, none⟩ = some (.int .i64 x3) := cell_of_row W Bs 3 _ _ (0, 0) hBs
  have d4 : W.cell? ⟨Bs, 4, none⟩ = some (.int .i64 x4) := cell_of_row W Bs 4 _ _ (0, 0) hBs
  have d5 : W.cell? ⟨Bs, 5, none⟩ = some (.slice xu1 xu2 xu3) := cell_of_row W Bs 5 _ _ (0, 0) hBs
  have d6 : W.cell? ⟨Bs, 6, none⟩ = some (.slice xv1 xv2 xv3) := cell_of_row W Bs 6 _ _ (0, 0) hBs
  have d7 : W.cell? ⟨Bs, 7, none⟩ = some (.int .i64 x8) := cell_of_row W Bs 7 _ _ (0, 0) hBs
  have d8 : W.cell? ⟨Bs, 8, none⟩ = some (.int .i64 x9) := cell_of_row W Bs 8 _ _ (0, 0) hBs
  have hC : ndC X = [.int .i64 x0, .string x1, .int .i64 x2, .int .i64 x3, .int .i64 x4, .slice xu1 xu2 xu3, .slice xv1 xv2 xv3, .int .i64 x8, .int .i64 x9] := by rw [← hX]; rfl
  rw [hX] at hY hST
  rw [hX, hfe]
  rw [hfe] at hY
  have hinv : OrX W K f J (.pointer (some ⟨W.heap.size + 1, 0, none⟩)) [] ((W.alloc (.cells #[.int .i64 x0, .string x1, .int .i64 x2, .int .i64 x3, .int .i64 x4, .slice xu1 xu2 xu3, .slice xv1 xv2 xv3, .int .i64 x8, .int .i64 x9] 29)).alloc (.cells #[.slice (some ⟨W.heap.size, 0, none⟩) 1 1] 25)) f.size := by
    have hb : Below W.heap.size W ((W.alloc (.cells #[.int .i64 x0, .string x1, .int .i64 x2, .int .i64 x3, .int .i64 x4, .slice xu1 xu2 xu3, .slice xv1 xv2 xv3, .int .i64 x8, .int .i64 x9] 29)).alloc (.cells #[.slice (some ⟨W.heap.size, 0, none⟩) 1 1] 25)) := ((Below.refl _ W).alloc (Nat.le_refl _) _).alloc (by simp) _
    refine ⟨W.heap.size + 1, .slice (some ⟨W.heap.size, 0, none⟩) 1 1, f, [], fun k => k = W.heap.size + 1 ∨ k = W.heap.size, rfl, rfl, ?_, ?_, rfl, ?_, .inl rfl, ?_, ?_, (fun r hr => by cases hr), List.nodup_nil, Kk.of_below (hb.mono hB) hKB⟩
    · have := Boxed.new (W.alloc (.cells #[.int .i64 x0, .string x1, .int .i64 x2, .int .i64 x3, .int .i64 x4, .slice xu1 xu2 xu3, .slice xv1 xv2 xv3, .int .i64 x8, .int .i64 x9] 29)) 25 (.slice (some ⟨W.heap.size, 0, none⟩) 1 1)
      rwa [World.size_alloc] at this
    · have := own_full' W W.heap.size (Nat.le_refl _) 29 9 1 (ndC X) rfl (by unfold maxLen; omega)
      rw [← hfe]
      have e : estk (Te.cons X ps .nil) = ndC X := by simp [estk, Te.top]
      rw [e]
      rw [hC] at this ⊢
      exact this.alloc _
    · refine hJ _ _ _ _ _ h0 (Stp.of_below hb) ?_
      rintro k hk (rfl | rfl) <;> omega
    · intro g hg
      right
      have : W.heap.size = g := by simpa [Value.ownBlock] using hg
      exact this.symm
    · rintro k (rfl | rfl) <;> (simp only [World.size_alloc]; omega)
  have HINV := Lib.hid hinv
  have HJ := Lib.hid hJ
  have HJX := Lib.hid hJx
  have HY := Lib.hid hY
  have HX := Lib.hid hX
  have HST := Lib.hid (show ∀ (W' : World) (pre : List Tm) (R : Te), Kk K W W' → pre ++ R.pre = f.pre → TeL B W' R from fun W' pre R hk hp => tel_sub (hST W' hk) (by rw [hfe]; exact hp))
  have HFE := Lib.hid hfe
  clear hinv hJ hJx hY h0 hST hX hfe hC
  refine callsIn_of_wp_marks Try.func26 rfl trivial ?_ rfl
  simp only [Try.ntmps26, List.size_toArray, List.length_cons, List.length_nil, Nat.reduceAdd, Nat.reduceSub, Array.replicate_succ, Array.replicate_zero, List.push_toArray, List.append_toArray, List.nil_append, List.cons_append]
  gi_wp2
  refine wpIn_loop (fun a wr => ∃ (t3 t4 t5 t6 t7 t10 t11 t12 t13 t14 t15 t16 t17 t18 t19 t20 t21 t22 t23 t24 t25 t26 t27 t28 t29 t30 t31 t32 t33 t34 t35 t36 t37 t38 : Value) (rs : List Nat), a = { tmps := #[.func (.yield l) #[] #[], .pointer (some ⟨Bs, 0, none⟩), undef, t3, t4, t5, t6, t7, .agg #[.int .i64 x0, .string x1, .int .i64 x2, .int .i64 x3, .int .i64 x4, .slice xu1 xu2 xu3, .slice xv1 xv2 xv3, .int .i64 x8, .int .i64 x9], .slice (some ⟨W.heap.size, 0, none⟩) 1 1, t10, t11, t12, t13, t14, t15, t16, t17, t18, t19, t20, t21, t22, t23, t24, t25, t26, t27, t28, t29, t30, t31, t32, t33, t34, t35, t36, t37, t38], defers := rs.map emark } ∧ ∃ s, OrX W K f J t3 rs wr s)
    (fun a wr => least (fun s => ∃ rs, a.defers = rs.map emark ∧ OrX W K f J (a.tmps.getD 3 undef) rs wr s)) ?_ ?_
  · exact ⟨_, _, _, _, _, _, _, _, _, _, _, _, _, _, _, _, _, _, _, _, _, _, _, _, _, _, _, _, _, _, _, _, _, _, [], rfl, _, HINV.out⟩
  rintro a wr ⟨t3, t4, t5, t6, t7, t10, t11, t12, t13, t14, t15, t16, t17, t18, t19, t20, t21, t22, t23, t24, t25, t26, t27, t28, t29, t30, t31, t32, t33, t34, t35, t36, t37, t38, rs, rfl, s, hs0⟩
  obtain ⟨⟨rs0, hrs0, bt, v, R, pre, O, rfl, hRs, hbox, hown, hpre, hJs, hObt, hOrow, hOin, hrs, hnd, hb⟩, hle⟩ := least_of (p := fun s => ∃ rs0, (rs.map emark) = rs0.map emark ∧ OrX W K f J t3 rs0 wr s) ⟨rs, rfl, hs0⟩
  obtain rfl := emark_inj hrs0
  have HM := Lib.hid hRs
  clear hs0 hrs0 hle hRs
  have e0 : wr.cell? ⟨bt, 0, none⟩ = some v := hbox.cell
  have hWr : W.heap.size ≤ wr.heap.size := by have := (hOin bt hObt); omega
  have hJ0 := HJ.out
  cases R with
  | nil =>
    obtain ⟨A, c, rfl, _, _⟩ := own_form hown
    dsimp only [Te.len] at e0
    have hys : pre = f.pre := by simpa [Te.pre] using hpre
    have HYS := Lib.hid hys
    have HR := Lib.hid hrs
    have HND := Lib.hid hnd
    have HJS := Lib.hid hJs
    have HO := Lib.hid hOin
    clear hys hrs hnd hJs hOin hown hpre hbox hb hJ0
    gi_wp2
    refine eleaves_marks rs wr HND.out (fun r hr => (HR.out r hr).2) ?_
    intro w' h1 h2 h3 h4 h5
    refine ⟨_, results_none rfl _ _ _, ⟨_, rfl⟩, .inl ⟨pre, O, HYS.out, HJ.out _ _ _ _ _ HJS.out ⟨h2, h3, h4, Nat.le_of_eq h1.symm, fun k hk hn => h5 k fun hkr => hn (HR.out k hkr).1⟩ fun _ _ h => h⟩⟩
  | cons y yp r =>
    obtain ⟨y0, y1, y2, y3, y4, ⟨yu1, yu2, yu3⟩, y6, ⟨yv1, yv2, yv3⟩, y8, y9⟩ := y
    have hfl : pre.length + (1 + yp.size + r.size) ≤ 1000000 := by
      have h2 := congrArg List.length hpre
      rw [List.length_append, Te.pre_len, Te.pre_len] at h2
      simp only [Te.size] at h2
      omega
    have hyn : yp.len ≤ 1000000 := by have := yp.len_le_size; omega
    have hrn : r.len ≤ 1000000 := by have := r.len_le_size; omega
    have hnext : ∃ s, pre ++ ((⟨y0, y1, y2, y3, y4, (yu1, yu2, yu3), y6, (yv1, yv2, yv3), y8, y9⟩ : Nd), yp) :: s = f.pre := ⟨yp.pre ++ r.pre, hpre⟩
    have hpre2 : (pre ++ [((⟨y0, y1, y2, y3, y4, (yu1, yu2, yu3), y6, (yv1, yv2, yv3), y8, y9⟩ : Nd), yp)]) ++ (yp.app r).pre = f.pre := by
      rw [← hpre, List.append_assoc, Te.pre_next]; rfl
    dsimp only [Te.len] at hown e0
    obtain ⟨g, cp, rfl, hg1, hg2⟩ := own_shape hown (by omega)
    rw [estk_cons] at hown
    have hsl := estk_len r
    obtain ⟨q, hq⟩ : ∃ q, r.len = q := ⟨_, rfl⟩
    rw [hq] at hown hsl hrn e0 hbox hOrow
    have hcell : ∀ j u, (ndC ⟨y0, y1, y2, y3, y4, (yu1, yu2, yu3), y6, (yv1, yv2, yv3), y8, y9⟩)[j]? = some u → wr.cell? ⟨g, q * 9 + j, none⟩ = some u := by
      intro j u hu
      have hj : j < 9 := (List.getElem?_eq_some_iff.1 hu).1
      rw [hown.cellAt _ (by omega), List.getElem?_append_right (by omega), hsl, show q * 9 + j - q * 9 = j by omega]
      exact hu
    have c0 : wr.cell? ⟨g, q * 9, none⟩ = some (.int .i64 y0) := hcell 0 _ rfl
    have c1 : wr.cell? ⟨g, q * 9 + 1, none⟩ = some (.string y1) := hcell 1 _ rfl
    have c2 : wr.cell? ⟨g, q * 9 + 2, none⟩ = some (.int .i64 y2) := hcell 2 _ rfl
    have c3 : wr.cell? ⟨g, q * 9 + 3, none⟩ = some (.int .i64 y3) := hcell 3 _ rfl
    have c4 : wr.cell? ⟨g, q * 9 + 4, none⟩ = some (.int .i64 y4) := hcell 4 _ rfl
    have c5 : wr.cell? ⟨g, q * 9 + 5, none⟩ = some (.slice yu1 yu2 yu3) := hcell 5 _ rfl
    have c6 : wr.cell? ⟨g, q * 9 + 6, none⟩ = some (.slice yv1 yv2 yv3) := hcell 6 _ rfl
    have c7 : wr.cell? ⟨g, q * 9 + 7, none⟩ = some (.int .i64 y8) := hcell 7 _ rfl
    have c8 : wr.cell? ⟨g, q * 9 + 8, none⟩ = some (.int .i64 y9) := hcell 8 _ rfl
    obtain ⟨W1, hW1⟩ : ∃ W1, W1 = wr.alloc (.cells #[.int .i64 y0, .string y1, .int .i64 y2, .int .i64 y3, .int .i64 y4, .slice yu1 yu2 yu3, .slice yv1 yv2 yv3, .int .i64 y8, .int .i64 y9] 29) := ⟨_, rfl⟩
    have hs1 : W1.heap.size = wr.heap.size + 1 := by rw [hW1]; simp
    have hb1 : Below wr.heap.size wr W1 := by rw [hW1]; exact (Below.refl _ _).alloc (Nat.le_refl _) _
    obtain ⟨O1, hO1⟩ : ∃ O1 : Nat → Prop, O1 = fun k => O k ∨ k = wr.heap.size := ⟨_, rfl⟩
    have hO1in : ∀ k, O1 k → W.heap.size ≤ k ∧ k < W1.heap.size := by
      rw [hO1]
      rintro k (h | rfl)
      · have := hOin k h; omega
      · omega
    have hJ1 : J O1 pre W1 := hJ0 _ _ _ _ _ hJs (Stp.of_below hb1) (by
      rw [hO1]
      rintro k hk (h | rfl)
      · exact h
      · omega)
    obtain ⟨fn, tmps, assign, body, hy, hR2⟩ := HY.out O1 pre (⟨y0, y1, y2, y3, y4, (yu1, yu2, yu3), y6, (yv1, yv2, yv3), y8, y9⟩, yp) W1 hJ1 hO1in (by omega) (hb.trans (Kk.of_below hb1 fun k hk => by have := hKB k hk; omega)) hnext
    have hown1 : W1.ownsRow W.heap.size 29 9 (.slice (some ⟨g, 0, none⟩) (q + 1) cp) (q + 1) (estk r ++ ndC ⟨y0, y1, y2, y3, y4, (yu1, yu2, yu3), y6, (yv1, yv2, yv3), y8, y9⟩) := by rw [hW1]; exact hown.alloc _
    have hbox1 : Boxed W1 bt 25 (.slice (some ⟨g, 0, none⟩) (q + 1) cp) := by rw [hW1]; exact hbox.alloc _
    have hx1 : W1.heap[wr.heap.size]? = some (.cells #[.int .i64 y0, .string y1, .int .i64 y2, .int .i64 y3, .int .i64 y4, .slice yu1 yu2 yu3, .slice yv1 yv2 yv3, .int .i64 y8, .int .i64 y9] 29) := by rw [hW1]; exact heap_alloc_new _ _
    have hbl : bt < wr.heap.size := hbox.lt
    have hOg : O g := hOrow g rfl
    have hcp : q + 1 ≤ cp := by
      obtain ⟨_, _, hv, h1, _⟩ := own_form hown
      injection hv with _ _ h3
      omega
    have hz : decide ((q : Int) ≤ (cp : Int)) = true := by simp; omega
    have hz0 : (0 : Int) ≤ (q : Int) := by omega
    dsimp only [teVal, slv] at hy
    rw [hW1] at hy hR2
    have HQ := Lib.hid (And.intro hq hfl)
    have HP2 := Lib.hid hpre2
    have HOW := Lib.hid hown1
    have HBX := Lib.hid hbox1
    have HX1 := Lib.hid hx1
    have HW1 := Lib.hid (And.intro hW1 (And.intro hs1 hb1))
    have HYL := Lib.hid hpre
    have HO1 := Lib.hid (And.intro hO1 (And.intro hO1in (And.intro hObt hOg)))
    have HRS := Lib.hid (And.intro hrs hnd)
    have HB := Lib.hid hb
    clear hq hpre2 hown hown1 hbox hbox1 hx1 hW1 hs1 hb1 hO1 hO1in hObt hOg hrs hnd hb hJ1 hJs hcell hsl hpre hnext hOrow hOin hJ0 hfl
    gi_wp2
    refine hR2.mono ?_
    rintro e W3 (⟨rfl, hJ3, hk3⟩ | ⟨rfl, hJ3, hk3⟩)
    case inr =>
      have hlast : (pre ++ [((⟨y0, y1, y2, y3, y4, (yu1, yu2, yu3), y6, (yv1, yv2, yv3), y8, y9⟩ : Nd), yp)]) ≠ [] ∧ ∃ s, (pre ++ [((⟨y0, y1, y2, y3, y4, (yu1, yu2, yu3), y6, (yv1, yv2, yv3), y8, y9⟩ : Nd), yp)]) ++ s = f.pre := ⟨by simp, _, HP2.out⟩
      have hrs3 : ∀ r ∈ rs, O1 r ∧ W3.heap[r]? = some (.deferred (some [])) := fun i hi => by
        obtain ⟨hi1, hi2⟩ := HRS.out.1 i hi
        obtain ⟨hW1, hs1, hb1⟩ := HW1.out
        have hO : O1 i := by rw [HO1.out.1]; exact .inl hi1
        rw [← hW1] at hk3
        exact ⟨hO, (hk3.own i hO).trans ((hb1.block i (Array.getElem?_eq_some_iff.1 hi2).1).trans hi2)⟩
      have HR3 := Lib.hid hrs3
      have HLA := Lib.hid hlast
      have HJ3 := Lib.hid hJ3
      clear hJ3 hrs3 hlast hk3
      gi_wp2
      refine eleaves_marks rs W3 HRS.out.2 (fun r hr => (HR3.out r hr).2) ?_
      intro w' h1 h2 h3 h4 h5
      exact ⟨_, results_none rfl _ _ _, ⟨_, rfl⟩, .inr ⟨_, O1, HLA.out, HJX.out _ _ _ _ _ HJ3.out ⟨h2, h3, h4, Nat.le_of_eq h1.symm, fun k hk hn => h5 k fun hkr => hn (HR3.out k hkr).1⟩ fun _ _ h => h⟩⟩
    obtain ⟨hO1, hO1in, hObt, hOg⟩ := HO1.out
    obtain ⟨hW1, hs1, hb1⟩ := HW1.out
    rw [← hW1] at hk3
    have h1t : O1 bt := by rw [hO1]; exact .inl hObt
    have h1g : O1 g := by rw [hO1]; exact .inl hOg
    have h1x : O1 wr.heap.size := by rw [hO1]; exact .inr rfl
    have hbox3 : Boxed W3 bt 25 (.slice (some ⟨g, 0, none⟩) (q + 1) cp) := (hk3.own bt h1t).trans HBX.out
    have hown3 : W3.ownsRow W.heap.size 29 9 (.slice (some ⟨g, 0, none⟩) (q + 1) cp) (q + 1) (estk r ++ ndC ⟨y0, y1, y2, y3, y4, (yu1, yu2, yu3), y6, (yv1, yv2, yv3), y8, y9⟩) := row_same HOW.out (fun j hj => by
      have : g = j := by simpa [Value.ownBlock] using hj
      subst this
      exact hk3.own g h1g)
    have hx3 : W3.heap[wr.heap.size]? = _ := (hk3.own _ h1x).trans HX1.out
    have hs3 := hk3.kk.size
    have e3 : W3.cell? ⟨bt, 0, none⟩ = some (.slice (some ⟨g, 0, none⟩) (q + 1) cp) := hbox3.cell
    have f3 : W3.frozen? ⟨bt, 0, none⟩ = false := hbox3.frozen
    have x6 : W3.cell? ⟨wr.heap.size, 6, none⟩ = some (.slice yv1 yv2 yv3) := cell_of_row W3 _ 6 _ _ (0, 0) hx3
    have hrs3 : ∀ r ∈ rs, O1 r ∧ W3.heap[r]? = some (.deferred (some [])) := fun i hi => by
      obtain ⟨hi1, hi2⟩ := HRS.out.1 i hi
      have hO : O1 i := by rw [hO1]; exact .inl hi1
      exact ⟨hO, (hk3.own i hO).trans ((hb1.block i (Array.getElem?_eq_some_iff.1 hi2).1).trans hi2)⟩
    have hb3 : Kk K W W3 := HB.out.trans ((Kk.of_below hb1 fun k hk => by have := hKB k hk; omega).trans hk3.kk)
    have hne : wr.heap.size ≠ bt := by omega
    have HS3 := Lib.hid (And.intro hJ3 (And.intro hk3 (And.intro hbox3 (And.intro hown3 (And.intro hrs3 (And.intro hb3 hs3))))))
    clear hJ3 hk3 hbox3 hown3 hrs3 hb3 hs3 hx3 hO1 hO1in hObt hOg hW1 hs1 hb1 h1t h1g h1x e0 c0 c1 c2 c3 c4 c5 c6 c7 c8
    gi_wp2_with (refine ⟨trivial, ?_⟩; gi_at_call 27; refine (callsIn_wide.2 (eback_make yv1 yv2 yv3 _)).mono ?_; rintro e W4 ⟨rfl, hW4⟩)
    obtain ⟨hJ3, hk3, hbox3, hown3, hrs3, hb3, hs3⟩ := HS3.out
    obtain ⟨hO1, hO1in, hObt, hOg⟩ := HO1.out
    obtain ⟨hW1, hs1, hb1⟩ := HW1.out
    have h1t : O1 bt := by rw [hO1]; exact .inl hObt
    have h1g : O1 g := by rw [hO1]; exact .inl hOg
    obtain ⟨WS, hWS⟩ : ∃ WS, W3.setCell ⟨bt, 0, none⟩ (.slice (some ⟨g, 0, none⟩) q cp) = WS := ⟨_, rfl⟩
    obtain ⟨W5, hW5⟩ : ∃ W5, WS.alloc (.cells #[.slice yv1 yv2 yv3] 25) = W5 := ⟨_, rfl⟩
    have hsS : WS.heap.size = W3.heap.size := by rw [← hWS]; simp [World.setCell]
    have hs5 : W5.heap.size = W3.heap.size + 1 := by rw [← hW5]; simp [hsS]
    have hgt : g ≠ bt := fun e => hbox3.not_row (by decide) hown3 (by rw [← e]; rfl)
    have hgl : g < W3.heap.size := (hown3.lt g rfl).2
    have st3S : Stp (fun k => k = bt ∨ k = g) W3 WS := by rw [← hWS]; exact Stp.grown (grownBy_setCell' W3 bt _) fun i e => by injection e with e; exact .inl (.inl e.symm)
    have stS5 : Stp (fun k => k = bt ∨ k = g) WS W5 := by rw [← hW5]; exact Stp.of_below ((Below.refl _ _).alloc (Nat.le_refl _) _)
    have st35 := st3S.trans stS5 fun _ _ h => h
    have box5 : Boxed W5 bt 25 (.slice (some ⟨g, 0, none⟩) q cp) := by rw [← hW5, ← hWS]; exact (hbox3.set _).alloc _
    have own5 : W5.ownsRow W.heap.size 29 9 (.slice (some ⟨g, 0, none⟩) q cp) q (estk r) := by
      have h1 := own_cut hown3 q (by omega) (by rw [estk_len, HQ.out.1])
      have h2 : WS.ownsRow W.heap.size 29 9 (.slice (some ⟨g, 0, none⟩) q cp) q (estk r) := row_same h1 fun j hj => by
        have hj' : g = j := by simpa [Value.ownBlock] using hj
        subst hj'
        rw [← hWS]; exact Below.heap_setCell _ _ _ _ (by simpa using hgt)
      rw [← hW5]; exact h2.alloc _
    have bs5 : Boxed W5 W3.heap.size 25 (.slice yv1 yv2 yv3) := by rw [← hW5, ← hsS]; exact Boxed.new WS _ _
    have hbt3 : B ≤ bt := by have := hO1in bt h1t; omega
    have hbg3 : B ≤ g := by have := hO1in g h1g; omega
    have hbw5 : Below B W3 W5 := st35.below (by rintro i (rfl | rfl) <;> assumption) (by have := hk3.kk.size; have := hO1in bt h1t; omega)
    have hbW5 : Kk K W W5 := hb3.trans (Kk.of_below hbw5 hKB)
    have hTL5 : TeL B W5 (.cons ⟨y0, y1, y2, y3, y4, (yu1, yu2, yu3), y6, (yv1, yv2, yv3), y8, y9⟩ yp r) := HST.out W5 pre _ hbW5 HYL.out
    have hyv : RdE B W5 (.slice yv1 yv2 yv3) yp.top := TeV.rd hTL5.1.2
    have hv2 : yv2 = yp.top.length := by
      obtain ⟨A, c, hv, _⟩ := hyv
      injection hv
    have htl : yp.top.length ≤ 1000000 := by rw [Te.top_len]; exact hyn
    have hWW5 : W.heap.size ≤ W5.heap.size := by have := hO1in bt h1t; omega
    rw [hWS, hW5]
    have HJ3 := Lib.hid (And.intro hJ3 (And.intro hrs3 (And.intro st35 (And.intro hs5 (And.intro h1t (And.intro h1g hO1in))))))
    have HBXX := Lib.hid (And.intro hbox3 hown3)
    have HB5 := Lib.hid (And.intro box5 (And.intro hbW5 hs3))
    have HBS := Lib.hid bs5
    have HGT := Lib.hid hgt
    have HV2 := Lib.hid hv2
    clear hv2
    have hbt5 : bt < W5.heap.size := box5.lt
    have hbt53 : bt < W3.heap.size := hbox3.lt
    have h35 : W3.heap.size < W5.heap.size := by omega
    clear hJ3 hrs3 st35 hTL5 hbW5 hk3 hbox3 hown3 hb3 hs3 hO1 hO1in hObt hOg hW1 hs1 hb1 h1t h1g hWS hW5 hsS hs5 hgt st3S stS5 hbw5 e3 f3 x6
    refine wpIn_rangeFunc_ownH rfl hn1 (gf := 36) (lb := #[.pointer (some ⟨W3.heap.size, 0, none⟩)]) rfl trivial (enters_of Try.func36 (by kernel_rfl) rfl)
      (eback_stops (n_ - 1) (by omega) W3.heap.size B yv1 yv3 yp.top htl W5 (by omega) (by rw [← HV2.out]; exact bs5) (by rw [← HV2.out]; exact hyv)) KpB.t (KpB.b (by omega)) (Below.refl _ _) (fun _ => rfl)
      (PushI W5 W.heap.size bt (.slice (some ⟨g, 0, none⟩) q cp) (estk r) q) (fun _ _ _ => False)
      PushI.own (fun _ _ _ _ _ hs _ _ => hs)
      ⟨⟨_, box5, by simpa using own5, fun j hj => .inl hj⟩, Stp.refl _ _⟩
      (fun x a' W6 => ∃ Bx, W6.heap[Bx]? = some (Obj.cells (ndC x.2.1).toArray 29) ∧ a' = { tmps := #[.func (.yield l) #[] #[], .pointer (some ⟨Bs, 0, none⟩), undef, .pointer (some ⟨bt, 0, none⟩), .int .i64 q, .pointer (some ⟨wr.heap.size, 0, none⟩), t6, .pointer (some ⟨Bx, 0, none⟩), .agg #[.int .i64 x0, .string x1, .int .i64 x2, .int .i64 x3, .int .i64 x4, .slice xu1 xu2 xu3, .slice xv1 xv2 xv3, .int .i64 x8, .int .i64 x9], .slice (some ⟨W.heap.size, 0, none⟩) 1 1, .slice (some ⟨g, 0, none⟩) (q + 1) cp, .int .i64 ((q : Int) + 1), .bool true, .slice (some ⟨g, 0, none⟩) (q + 1) cp, .int .i64 ((q : Int) + 1), .int .i64 q, .slice (some ⟨g, 0, none⟩) (q + 1) cp, .int .i64 q, .pointer (some ⟨g, q * 9, none⟩), .agg #[.int .i64 y0, .string y1, .int .i64 y2, .int .i64 y3, .int .i64 y4, .slice yu1 yu2 yu3, .slice yv1 yv2 yv3, .int .i64 y8, .int .i64 y9], .func (.yield l) #[] #[], .agg #[.int .i64 y0, .string y1, .int .i64 y2, .int .i64 y3, .int .i64 y4, .slice yu1 yu2 yu3, .slice yv1 yv2 yv3, .int .i64 y8, .int .i64 y9], .bool true, .bool false, .slice (some ⟨g, 0, none⟩) (q + 1) cp, .int .i64 q, .slice (some ⟨g, 0, none⟩) q cp, .pointer (some ⟨wr.heap.size, 6, none⟩), .slice yv1 yv2 yv3, .func (.func 36) #[] #[.pointer (some ⟨W3.heap.size, 0, none⟩)], .int .i64 x.1, teVal x.2.1, t32, t33, t34, t35, t36, t37, t38], defers := [] })
      (fun x a' s W W' row hs hg hr => by
        obtain ⟨Bx, hc, ha⟩ := hs
        refine ⟨Bx, (hg.block Bx (Array.getElem?_eq_some_iff.1 hc).1 fun e => ?_).trans hc, ha⟩
        obtain ⟨o, ho, hoc⟩ := (hr Bx e.symm).2
        rw [hc] at ho
        cases ho
        cases hoc) ?assign ?body ?done ?stop
    case assign =>
      rintro l2 pr6 x W6 K hi hK
      obtain ⟨z0, ⟨z1, z2, z3, z4, z5, ⟨zu1, zu2, zu3⟩, z7, ⟨zv1, zv2, zv3⟩, z9, z10⟩, zp⟩ := x
      dsimp only [teVal, slv] at hK ⊢
      have HI := Lib.hid hi
      have hsz := hi.2.size
      clear hi
      gi_wp2
      exact hK _ _ ((KeepsOthers.alloc _ _).from _) ⟨(Below.refl B W6).alloc (by omega) _, fun o ho _ => (Below.heap_alloc _ _ _ (Array.getElem?_eq_some_iff.1 ho).1).trans ho⟩ (PushI.own.alloc _ HI.out) ⟨W6.heap.size, heap_alloc_new W6 _, rfl⟩
    case body =>
      rintro l2 pr6 x a' W6 hl ⟨rr, hrr⟩ ⟨⟨vt, bv, hown, hrow⟩, hst⟩ ⟨Bx, hc, rfl⟩ hlt
      obtain ⟨z0, ⟨z1, z2, z3, z4, z5, ⟨zu1, zu2, zu3⟩, z7, ⟨zv1, zv2, zv3⟩, z9, z10⟩, zp⟩ := x
      dsimp only [teVal, slv] at hc ⊢
      have a0 : W6.cell? ⟨Bx, 0, none⟩ = some (.int .i64 z1) := cell_of_row W6 Bx 0 _ _ (0, 0) hc
      have a1 : W6.cell? ⟨Bx, 1, none⟩ = some (.string z2) := cell_of_row W6 Bx 1 _ _ (0, 0) hc
      have a2 : W6.cell? ⟨Bx, 2, none⟩ = some (.int .i64 z3) := cell_of_row W6 Bx 2 _ _ (0, 0) hc
      have a3 : W6.cell? ⟨Bx, 3, none⟩ = some (.int .i64 z4) := cell_of_row W6 Bx 3 _ _ (0, 0) hc
      have a4 : W6.cell? ⟨Bx, 4, none⟩ = some (.int .i64 z5) := cell_of_row W6 Bx 4 _ _ (0, 0) hc
      have a5 : W6.cell? ⟨Bx, 5, none⟩ = some (.slice zu1 zu2 zu3) := cell_of_row W6 Bx 5 _ _ (0, 0) hc
      have a6 : W6.cell? ⟨Bx, 6, none⟩ = some (.slice zv1 zv2 zv3) := cell_of_row W6 Bx 6 _ _ (0, 0) hc
      have a7 : W6.cell? ⟨Bx, 7, none⟩ = some (.int .i64 z9) := cell_of_row W6 Bx 7 _ _ (0, 0) hc
      have a8 : W6.cell? ⟨Bx, 8, none⟩ = some (.int .i64 z10) := cell_of_row W6 Bx 8 _ _ (0, 0) hc
      have hBxl : Bx < W6.heap.size := (Array.getElem?_eq_some_iff.1 hc).1
      obtain ⟨Av, cv, rfl, hk1, hk2⟩ := own_form hown
      obtain ⟨i0, hi0, hz0', hz1', hz2'⟩ := info_parts teInfo
      obtain ⟨k, hk⟩ : ∃ k, q + pr6.length = k := ⟨_, rfl⟩
      have hkb : k ≤ 3000000 := by omega
      rw [hk] at hown bv hrow hk1
      have hszm := hst.size
      obtain ⟨W7, hW7⟩ : ∃ W7, W7 = (W6.alloc (.cells #[.int .i64 0, .string ⟨#[]⟩, .int .i64 0, .int .i64 0, .int .i64 0, .slice none 0 0, .slice none 0 0, .int .i64 0, .int .i64 0] 29)).drew := ⟨_, rfl⟩
      have own1 : W7.ownsRow W.heap.size 29 9 (.slice Av k cv) k (estk r ++ pr6.flatMap fun x => ndC x.2.1) := by rw [hW7]; exact hown.alloc _
      have rd1 : Rd W7 9 (.slice (some ⟨W6.heap.size, 0, none⟩) 1 1) 1 [.int .i64 0, .string ⟨#[]⟩, .int .i64 0, .int .i64 0, .int .i64 0, .slice none 0 0, .slice none 0 0, .int .i64 0, .int .i64 0] := by
        rw [hW7]; exact rd_new W6 [.int .i64 0, .string ⟨#[]⟩, .int .i64 0, .int .i64 0, .int .i64 0, .slice none 0 0, .slice none 0 0, .int .i64 0, .int .i64 0] 29 9 1 rfl (by unfold maxLen; omega)
      obtain ⟨v1, w1, hrun, hown1, hg1, hat⟩ := run_append_rd (P := Try.prog) W7 W.heap.size 25 25 29 i0 _ 9 112 Try.underlying25 hi0 hz0' hz1' hz2' rfl (by omega) (.slice Av k cv) k _ own1 _ 1 _ rd1 (by simp [Value.oneCell']) (by unfold maxLen; omega) (by omega) (by rw [hW7]; simp; omega)
      obtain ⟨g2, cp2, rfl, hg0, hg2'⟩ := own_shape hown1 (by omega)
      have hrun2 : (app_ #[25, 25] 25 #[.slice Av k cv, .slice (some ⟨W6.heap.size, 0, none⟩) 1 1]).run Try.prog W7 = .ok (.slice (some ⟨g2, 0, none⟩) (k + 1) cp2) w1 := hrun
      rw [hW7] at hrun2
      have HW7 := Lib.hid hW7
      have hxl : (estk r ++ pr6.flatMap fun x => ndC x.2.1).length = k * 9 := hown.1
      have q0 : w1.cell? ⟨g2, k * 9, none⟩ = some (.int .i64 0) := by rw [hown1.cellAt _ (by omega), List.getElem?_append_right (by omega), hxl]; simp
      have qf0 : w1.frozen? ⟨g2, k * 9, none⟩ = false := hown1.frozenAt _
      have q1 : w1.cell? ⟨g2, k * 9 + 1, none⟩ = some (.string ⟨#[]⟩) := by rw [hown1.cellAt _ (by omega), List.getElem?_append_right (by omega), hxl]; simp
      have qf1 : w1.frozen? ⟨g2, k * 9 + 1, none⟩ = false := hown1.frozenAt _
      have q2 : w1.cell? ⟨g2, k * 9 + 2, none⟩ = some (.int .i64 0) := by rw [hown1.cellAt _ (by omega), List.getElem?_append_right (by omega), hxl]; simp
      have qf2 : w1.frozen? ⟨g2, k * 9 + 2, none⟩ = false := hown1.frozenAt _
      have q3 : w1.cell? ⟨g2, k * 9 + 3, none⟩ = some (.int .i64 0) := by rw [hown1.cellAt _ (by omega), List.getElem?_append_right (by omega), hxl]; simp
      have qf3 : w1.frozen? ⟨g2, k * 9 + 3, none⟩ = false := hown1.frozenAt _
      have q4 : w1.cell? ⟨g2, k * 9 + 4, none⟩ = some (.int .i64 0) := by rw [hown1.cellAt _ (by omega), List.getElem?_append_right (by omega), hxl]; simp
      have qf4 : w1.frozen? ⟨g2, k * 9 + 4, none⟩ = false := hown1.frozenAt _
      have q5 : w1.cell? ⟨g2, k * 9 + 5, none⟩ = some (.slice none 0 0) := by rw [hown1.cellAt _ (by omega), List.getElem?_append_right (by omega), hxl]; simp
      have qf5 : w1.frozen? ⟨g2, k * 9 + 5, none⟩ = false := hown1.frozenAt _
      have q6 : w1.cell? ⟨g2, k * 9 + 6, none⟩ = some (.slice none 0 0) := by rw [hown1.cellAt _ (by omega), List.getElem?_append_right (by omega), hxl]; simp
      have qf6 : w1.frozen? ⟨g2, k * 9 + 6, none⟩ = false := hown1.frozenAt _
      have q7 : w1.cell? ⟨g2, k * 9 + 7, none⟩ = some (.int .i64 0) := by rw [hown1.cellAt _ (by omega), List.getElem?_append_right (by omega), hxl]; simp
      have qf7 : w1.frozen? ⟨g2, k * 9 + 7, none⟩ = false := hown1.frozenAt _
      have q8 : w1.cell? ⟨g2, k * 9 + 8, none⟩ = some (.int .i64 0) := by rw [hown1.cellAt _ (by omega), List.getElem?_append_right (by omega), hxl]; simp
      have qf8 : w1.frozen? ⟨g2, k * 9 + 8, none⟩ = false := hown1.frozenAt _
      have bv1 : Boxed w1 bt 25 (.slice Av k cv) := by
        refine Boxed.kept (W := W7) (by rw [hW7]; exact bv.alloc _) hg1 (bv.not_row (by decide) hown)
      have bc := bv.cell
      have bf := bv.frozen
      have bc1 := bv1.cell
      have bf1 := bv1.frozen
      have hlb : bt < W6.heap.size := bv.lt
      have hgb : g2 ≠ bt := by
        rintro rfl
        exact bv1.not_row (by decide) hown1 (by simp [Value.ownBlock])
      have hkk : (0 : Int) ≤ (k : Int) := by omega
      have hkk1 : (k : Int) < (k : Int) + 1 := by omega
      have hWw : ∀ j, j < W6.heap.size → some j ≠ (Value.slice Av k cv).ownBlock → w1.heap[j]? = W6.heap[j]? := by
        intro j hj hne
        rw [hg1.block j (by rw [hW7]; simp; omega) hne, hW7]
        exact Below.heap_alloc _ _ _ hj
      have hszw : W6.heap.size ≤ w1.heap.size := by have := hg1.size; rw [hW7] at this; simp at this; omega
      have hatW : (.slice (some ⟨g2, 0, none⟩) (k + 1) cp2 : Value).ownBlock = (Value.slice Av k cv).ownBlock ∨ W6.heap.size ≤ g2 := by
        rcases hat with h | h
        · exact .inl h
        · right
          have : g2 = W7.heap.size := by simpa [Value.ownBlock] using h
          rw [this, hW7]; simp
      have ho1 : w1.os = W6.os := by rw [hg1.os, hW7]; rfl
      have ho2 : w1.tape = W6.tape := by rw [hg1.tape, hW7]; rfl
      have ho3 : w1.output = W6.output := by rw [hg1.output, hW7]; rfl
      have hgne : ∀ j, j < W6.heap.size → some j ≠ (Value.slice Av k cv).ownBlock → j ≠ g2 := by
        rintro j hj hne rfl
        rcases hatW with h | h
        · exact hne (by rw [← h]; rfl)
        · omega
      have hv5 : (Value.slice (some ⟨g, 0, none⟩) q cp).ownBlock ≠ some W3.heap.size := by
        intro e
        have e2 : g = W3.heap.size := by simpa [Value.ownBlock] using e
        omega
      have FA0 : ∀ act_ : Act, ownPostG W5.heap.size (KpB B W3.heap.size) (PushI W5 W.heap.size bt (.slice (some ⟨g, 0, none⟩) q cp) (estk r) q) (fun _ _ _ => False) (pr6 ++ [(z0, (⟨z1, z2, z3, z4, z5, (zu1, zu2, zu3), z7, (zv1, zv2, zv3), z9, z10⟩ : Nd), zp)]) W6 .normal act_ ((set9 w1 g2 (k * 9) (⟨z1, z2, z3, z4, z5, (zu1, zu2, zu3), z7, (zv1, zv2, zv3), z9, z10⟩ : Nd)).setCell ⟨bt, 0, none⟩ (.slice (some ⟨g2, 0, none⟩) (k + 1) cp2)) := by
        intro act_
        obtain ⟨e1, e2⟩ := set9_own (⟨z1, z2, z3, z4, z5, (zu1, zu2, zu3), z7, (zv1, zv2, zv3), z9, z10⟩ : Nd) hxl rfl hown1
        have e3 := grownBy_setCell' (set9 w1 g2 (k * 9) (⟨z1, z2, z3, z4, z5, (zu1, zu2, zu3), z7, (zv1, zv2, zv3), z9, z10⟩ : Nd)) bt (.slice (some ⟨g2, 0, none⟩) (k + 1) cp2)
        refine push_fin (z0, (⟨z1, z2, z3, z4, z5, (zu1, zu2, zu3), z7, (zv1, zv2, zv3), z9, z10⟩ : Nd), zp) hk hB hbt3 hbt5 (by omega) HBS.out hv5 bv hown hrow hst hatW (e1.kept e3 (.inr (by simp [Value.ownBlock]; exact hgb))) ?_ (e3.os.trans (e2.os.trans ho1)) (e3.tape.trans (e2.tape.trans ho2)) (e3.output.trans (e2.output.trans ho3)) (Nat.le_trans hszw (Nat.le_trans e2.size e3.size)) ?_
        · exact ((bv1.kept e2 (by simp; omega)).set _)
        · intro j hj hne hnb
          rw [e3.block j (by have := e2.size; omega) (by simp; exact hnb), e2.block j (by omega) (by simp; exact hgne j hj hne)]
          exact hWw j hj hne
      have FB0 : ∀ act_ : Act, ownPostG W5.heap.size (KpB B W3.heap.size) (PushI W5 W.heap.size bt (.slice (some ⟨g, 0, none⟩) q cp) (estk r) q) (fun _ _ _ => False) (pr6 ++ [(z0, (⟨z1, z2, z3, z4, z5, (zu1, zu2, zu3), z7, (zv1, zv2, zv3), z9, z10⟩ : Nd), zp)]) W6 .normal act_ (set9 (w1.setCell ⟨bt, 0, none⟩ (.slice (some ⟨g2, 0, none⟩) (k + 1) cp2)) g2 (k * 9) (⟨z1, z2, z3, z4, z5, (zu1, zu2, zu3), z7, (zv1, zv2, zv3), z9, z10⟩ : Nd)) := by
        intro act_
        have e3 := grownBy_setCell' w1 bt (.slice (some ⟨g2, 0, none⟩) (k + 1) cp2)
        obtain ⟨e1, e2⟩ := set9_own (⟨z1, z2, z3, z4, z5, (zu1, zu2, zu3), z7, (zv1, zv2, zv3), z9, z10⟩ : Nd) hxl rfl (hown1.kept e3 (.inr (by simp [Value.ownBlock]; exact hgb)))
        refine push_fin (z0, (⟨z1, z2, z3, z4, z5, (zu1, zu2, zu3), z7, (zv1, zv2, zv3), z9, z10⟩ : Nd), zp) hk hB hbt3 hbt5 (by omega) HBS.out hv5 bv hown hrow hst hatW e1 ?_ (e2.os.trans (e3.os.trans ho1)) (e2.tape.trans (e3.tape.trans ho2)) (e2.output.trans (e3.output.trans ho3)) (Nat.le_trans hszw (Nat.le_trans e3.size e2.size)) ?_
        · exact ((bv1.set _).kept e2 (by simp; omega))
        · intro j hj hne hnb
          rw [e2.block j (by have := e3.size; omega) (by simp; exact hgne j hj hne), e3.block j (by omega) (by simp; exact hnb)]
          exact hWw j hj hne
      have FA : Hid (∀ act_ : Act, ownPostG W5.heap.size (KpB B W3.heap.size) (PushI W5 W.heap.size bt (.slice (some ⟨g, 0, none⟩) q cp) (estk r) q) (fun _ _ _ => False) (pr6 ++ [(z0, (⟨z1, z2, z3, z4, z5, (zu1, zu2, zu3), z7, (zv1, zv2, zv3), z9, z10⟩ : Nd), zp)]) W6 .normal act_ ((((((((((w1.setCell ⟨g2, k * 9, none⟩ (.int .i64 z1)).setCell ⟨g2, k * 9 + 1, none⟩ (.string z2)).setCell ⟨g2, k * 9 + 2, none⟩ (.int .i64 z3)).setCell ⟨g2, k * 9 + 3, none⟩ (.int .i64 z4)).setCell ⟨g2, k * 9 + 4, none⟩ (.int .i64 z5)).setCell ⟨g2, k * 9 + 5, none⟩ (.slice zu1 zu2 zu3)).setCell ⟨g2, k * 9 + 6, none⟩ (.slice zv1 zv2 zv3)).setCell ⟨g2, k * 9 + 7, none⟩ (.int .i64 z9)).setCell ⟨g2, k * 9 + 8, none⟩ (.int .i64 z10)).setCell ⟨bt, 0, none⟩ (.slice (some ⟨g2, 0, none⟩) (k + 1) cp2))) := Lib.hid FA0
      have FB : Hid (∀ act_ : Act, ownPostG W5.heap.size (KpB B W3.heap.size) (PushI W5 W.heap.size bt (.slice (some ⟨g, 0, none⟩) q cp) (estk r) q) (fun _ _ _ => False) (pr6 ++ [(z0, (⟨z1, z2, z3, z4, z5, (zu1, zu2, zu3), z7, (zv1, zv2, zv3), z9, z10⟩ : Nd), zp)]) W6 .normal act_ ((((((((((w1.setCell ⟨bt, 0, none⟩ (.slice (some ⟨g2, 0, none⟩) (k + 1) cp2)).setCell ⟨g2, k * 9, none⟩ (.int .i64 z1)).setCell ⟨g2, k * 9 + 1, none⟩ (.string z2)).setCell ⟨g2, k * 9 + 2, none⟩ (.int .i64 z3)).setCell ⟨g2, k * 9 + 3, none⟩ (.int .i64 z4)).setCell ⟨g2, k * 9 + 4, none⟩ (.int .i64 z5)).setCell ⟨g2, k * 9 + 5, none⟩ (.slice zu1 zu2 zu3)).setCell ⟨g2, k * 9 + 6, none⟩ (.slice zv1 zv2 zv3)).setCell ⟨g2, k * 9 + 7, none⟩ (.int .i64 z9)).setCell ⟨g2, k * 9 + 8, none⟩ (.int .i64 z10))) := Lib.hid FB0
      clear FA0 FB0 hxl hWw hszw hatW ho1 ho2 ho3 hgne hrun hown1 hg1 hat own1 rd1 bv bv1 hown hrow hst hk hW7 hc box5 own5 bs5 hyv hv5
      have hmix : Try.prog.follows Departure.mixedOrders = true := by kernel_rfl
      gi_wp2
      gi_region_with_o (fail)
      all_goals gi_wp2
      all_goals
        first
          | with_reducible exact FA.out _
          | with_reducible exact FB.out _
    case done =>
      rintro D ys W6 hD hys ⟨⟨vt, bv, hown, hrow⟩, hst⟩ hK
      obtain ⟨hJ3, hrs3, st35, hs5, h1t, h1g, hO1in⟩ := HJ3.out
      obtain ⟨_, hbW5, hs3⟩ := HB5.out
      have hlen : ys.length = yp.len := by
        have : (ys.map (·.2)).length = yp.top.reverse.length := by rw [hys]
        simpa [Te.top_len] using this
      have hfl : (ys.flatMap fun x => ndC x.2.1) = yp.top.reverse.flatMap fun t => ndC t.1 := by
        rw [← hys, List.flatMap_map]
      have hlen2 : q + ys.length = (yp.app r).len := by rw [Te.len_app, hlen, HQ.out.1]; omega
      rw [hlen2, hfl, ← estk_app] at hown
      have st56 : Stp (fun k => k = bt ∨ k = g) W5 W6 := ⟨hst.os, hst.tape, hst.output, hst.size, fun k hk hn => hst.block k hk (by
        rintro (h | h)
        · exact hn (.inl h)
        · exact hn (.inr (by simpa [Value.ownBlock] using h.symm)))⟩
      have st36 := st35.trans st56 fun _ _ h => h
      obtain ⟨Av, cv, rfl, _, _⟩ := own_form hown
      have e6 : W6.cell? ⟨bt, 0, none⟩ = some (.slice Av (yp.app r).len cv) := bv.cell
      obtain ⟨nn, hnn⟩ : ∃ nn, (yp.app r).len = nn := ⟨_, rfl⟩
      have hDl := (Array.getElem?_eq_some_iff.1 hK).1
      have hsz6 := hst.size
      have hnew : OrX W K f J (.pointer (some ⟨W6.heap.size, 0, none⟩)) (D :: rs) (W6.alloc (.cells #[.slice Av (yp.app r).len cv] 25)) (yp.app r).size := by
        have hal : Below W6.heap.size W6 (W6.alloc (.cells #[.slice Av (yp.app r).len cv] 25)) := (Below.refl _ _).alloc (Nat.le_refl _) _
        have st37 := st36.trans (Stp.of_below (O := fun k => k = bt ∨ k = g) hal) fun _ _ h => h
        have hb67 : Below B W5 (W6.alloc (.cells #[.slice Av (yp.app r).len cv] 25)) := (st56.below (by rintro i (rfl | rfl) <;> assumption) (by omega)).trans (hal.mono (by omega))
        refine ⟨W6.heap.size, _, yp.app r, _, fun k => O1 k ∨ (W3.heap.size ≤ k ∧ k < W6.heap.size + 1), rfl, rfl, Boxed.new W6 _ _, hown.alloc _, HP2.out, ?_, .inr ⟨by omega, by omega⟩, ?_, ?_, ?_, ?_, hbW5.trans (Kk.of_below hb67 hKB)⟩
        · refine HJ.out _ _ _ _ (W6.alloc (.cells #[.slice Av (yp.app r).len cv] 25)) hJ3 ⟨st37.os, st37.tape, st37.output, st37.size, fun k hk hn => st37.block k hk ?_⟩ ?_
          · rintro (rfl | rfl)
            · exact hn h1t
            · exact hn h1g
          · rintro k hk (h | h)
            · exact h
            · omega
        · intro j hj
          rcases hrow j hj with h | h
          · left
            have : g = j := by simpa [Value.ownBlock] using h
            exact this ▸ h1g
          · exact .inr ⟨by omega, by have := (hown.lt j hj).2; omega⟩
        · rintro k (h | h)
          · have := hO1in k h; simp only [World.size_alloc]; omega
          · simp only [World.size_alloc]; omega
        · intro i hi
          rcases List.mem_cons.1 hi with rfl | hi
          · exact ⟨.inr ⟨by omega, by omega⟩, (hal.block _ hDl).trans hK⟩
          · obtain ⟨h1, h2⟩ := hrs3 i hi
            refine ⟨.inl h1, (st37.block i (Array.getElem?_eq_some_iff.1 h2).1 ?_).trans h2⟩
            rintro (rfl | rfl)
            · have := st35.size
              have h3 := HBXX.out.1
              rw [show W3.heap[i]? = _ from h3] at h2; cases h2
            · exact (row_cells HBXX.out.2 i rfl).elim fun cs h3 => by rw [h3] at h2; cases h2
        · refine List.nodup_cons.2 ⟨fun h => ?_, HRS.out.2⟩
          have := (Array.getElem?_eq_some_iff.1 (hrs3 D h).2).1
          omega
      rw [hnn] at hnew e6
      have HN := Lib.hid hnew
      have HNN := Lib.hid hnn
      clear hnew hnn hown bv hrow hst hK hys hD hJ3 hrs3 st35 st36 st56 hbW5 hfl hlen hlen2 h1t h1g hO1in hs5
      gi_wp2
      refine ⟨⟨_, _, _, _, _, _, _, _, _, _, _, _, _, _, _, _, _, _, _, _, _, _, _, _, _, _, _, _, _, _, _, _, _, _, D :: rs, rfl, _, HN.out⟩, ?_⟩
      refine Nat.lt_of_lt_of_eq (Nat.lt_of_le_of_lt (least_of (p := fun s => ∃ rs0, (emark D :: rs.map emark) = rs0.map emark ∧ OrX W K f J (.pointer (some ⟨W6.heap.size, 0, none⟩)) rs0 (W6.alloc (.cells #[.slice Av nn cv] 25)) s) ⟨D :: rs, rfl, HN.out⟩).2 ?_) HM.out
      rw [Te.size_app]
      simp only [Te.size]
      omega
    case stop =>
      rintro D c pr6 W6 _ _ h _
      exact h.elim
end Go.Proofs.Ytfoangiphbmipaa
