/- Texts of one proof, one behind the other. -/
import Derived.Test.YtglmhdlkhnlkiaaMgTermStops30
import Derived.Test.YtglmhdlkhnlkiaaMgTermStops27
import Derived.Test.YtglmhdlkhnlkiaaMgTermStops8
/- TermStops. -/
namespace Go.Proofs.Ytglmhdlkhnlkiaa
open Go.RowKit Go.Shelf
attribute [local go_sem] Oper.semAt_some
attribute [local go_sem ↓] builtin_app

theorem eimg_trans {f g h : Fo} (a : Img idn f g) (b : Img idn g h) : Img idn f h := by
  induction f generalizing g h with
  | nil => cases g <;> cases h <;> simp_all [Img]
  | cons k n u ps r ih1 ih2 =>
    cases g with
    | nil => simp [Img] at a
    | cons k' n' u' ps' r' =>
      cases h with
      | nil => simp [Img] at b
      | cons k2 n2 u2 ps2 r2 =>
        simp only [Img, nm_id] at a b ⊢
        exact ⟨b.1.trans a.1, b.2.1.trans a.2.1, ih1 a.2.2.1 b.2.2.1, ih2 a.2.2.2 b.2.2.2⟩
theorem ndI_trans {x y z : Nd} (a : NdI x y) (b : NdI y z) : NdI x z :=
  ⟨b.1.trans a.1, b.2.1.trans a.2.1, b.2.2.1.trans a.2.2.1, b.2.2.2.1.trans a.2.2.2.1, b.2.2.2.2.1.trans a.2.2.2.2.1, eimg_trans a.2.2.2.2.2.1 b.2.2.2.2.2.1, b.2.2.2.2.2.2.1.trans a.2.2.2.2.2.2.1, b.2.2.2.2.2.2.2.trans a.2.2.2.2.2.2.2⟩
theorem timg_trans {f g h : Te} (a : TImg f g) (b : TImg g h) : TImg f h := by
  induction f generalizing g h with
  | nil => cases g <;> cases h <;> simp_all [TImg]
  | cons x ps r ih1 ih2 =>
    cases g with
    | nil => simp [TImg] at a
    | cons y ps' r' =>
      cases h with
      | nil => simp [TImg] at b
      | cons z ps2 r2 => exact ⟨ndI_trans a.1 b.1, ih1 a.2.1 b.2.1, ih2 a.2.2 b.2.2⟩
/-- Images stand at the same places. -/
def tmR : List Tm → List Tm → Prop
  | [], [] => True
  | s :: a, t :: b => (NdI s.1 t.1 ∧ TImg s.2 t.2) ∧ tmR a b
  | _, _ => False
theorem tmR_app {a b c d : List Tm} (h : tmR a b) (k : tmR c d) : tmR (a ++ c) (b ++ d) := by
  induction a generalizing b with
  | nil => cases b with
    | nil => exact k
    | cons => simp [tmR] at h
  | cons s a ih => cases b with
    | nil => simp [tmR] at h
    | cons t b => exact ⟨h.1, ih h.2⟩
theorem tmR_at {a b : List Tm} (h : tmR a b) (i : Nat) (t : Tm) (ht : b[i]? = some t) : ∃ s, a[i]? = some s ∧ NdI s.1 t.1 ∧ TImg s.2 t.2 := by
  induction a generalizing b i with
  | nil => cases b with
    | nil => simp at ht
    | cons => simp [tmR] at h
  | cons s a ih => cases b with
    | nil => simp [tmR] at h
    | cons t' b => cases i with
      | zero =>
        simp at ht
        subst ht
        exact ⟨s, rfl, h.1⟩
      | succ i =>
        simp at ht
        obtain ⟨s', h1, h2⟩ := ih h.2 i ht
        exact ⟨s', by simpa using h1, h2⟩
theorem timg_pre {f g : Te} (h : TImg f g) : tmR f.pre g.pre := by
  induction f generalizing g with
  | nil => cases g with
    | nil => trivial
    | cons => simp [TImg] at h
  | cons x ps r ih1 ih2 =>
    cases g with
    | nil => simp [TImg] at h
    | cons y ps' r' => exact ⟨⟨h.1, h.2.1⟩, tmR_app (ih1 h.2.1) (ih2 h.2.2)⟩
theorem timg_tyb {f g : Te} (h : TImg f g) (k : f.all OkN) : g.tyb := by
  induction f generalizing g with
  | nil => cases g <;> simp_all [TImg, Te.tyb]
  | cons x ps r ih1 ih2 =>
    cases g with
    | nil => simp [TImg] at h
    | cons y ps' r' => exact ⟨by have := ndI_tys h.1 k.1.2; omega, ih1 h.2.1 k.2.1, ih2 h.2.2 k.2.2⟩
/-- What has been got so far: a row of copies, which hang on nothing of the iterator's. -/
def Got (base g0 : Nat) (O : Nat → Prop) (pre : List Gv) (W : World) : Prop :=
  ∃ vt, Boxed W g0 25 vt ∧ W.ownsRow base 29 9 vt pre.length (pre.flatMap fun x => ndC { x.2.1.1 with tu := x.2.2.1, u := x.2.2.2 }) ∧ (∀ g, vt.ownBlock = some g → ¬ O g) ∧
    ∀ x ∈ pre, ∃ B M, base ≤ B ∧ FreshM B M W x.2.1.1 x.2.1.2 x.2.2.1 x.2.2.2 ∧ (∀ b, B ≤ b → b < M → ¬ O b) ∧ (∀ g, vt.ownBlock = some g → g < B ∨ M ≤ g)
theorem Got.step {base g0 : Nat} {O O' : Nat → Prop} {pre : List Gv} {W W' : World} (h : Got base g0 O pre W) (st : Stp O W W') (hO : ∀ k, k < W.heap.size → O' k → O k) (hg : ¬ O g0) : Got base g0 O' pre W' := by
  obtain ⟨vt, h1, h2, h3, h4⟩ := h
  have hl : ∀ g, vt.ownBlock = some g → g < W.heap.size := fun g hg => (h2.lt g hg).2
  refine ⟨vt, (st.block _ h1.lt hg).trans h1, row_same h2 fun g hv => st.block g (hl g hv) (h3 g hv), fun g hv ho => h3 g hv (hO g (hl g hv) ho), fun x hx => ?_⟩
  obtain ⟨B, M, h5, h6, h7, h8⟩ := h4 x hx
  exact ⟨B, M, h5, h6.to (Nat.le_trans h6.1 st.size) fun b o hB hM ho _ => (st.block b (Nat.lt_of_lt_of_le hM h6.1) (h7 b hB hM)).trans ho, fun b hB hM ho => h7 b hB hM (hO b (Nat.lt_of_lt_of_le hM h6.1) ho), h8⟩
/-- The range's own two blocks turn. -/
theorem Got.rec {base g0 r : Nat} {O : Nat → Prop} {pre : List Gv} {W W' : World} (h : Got base g0 O pre W) (st : Stp (fun k => k = r ∨ k = r + 1) W W') (hr : r + 2 ≤ base) (hg : g0 < r) : Got base g0 O pre W' := by
  obtain ⟨vt, h1, h2, h3, h4⟩ := h
  refine ⟨vt, (st.block _ h1.lt (by omega)).trans h1, row_same h2 fun g hv => st.block g (h2.lt g hv).2 (by have := (h2.lt g hv).1; omega), h3, fun x hx => ?_⟩
  obtain ⟨B, M, h5, h6, h7, h8⟩ := h4 x hx
  exact ⟨B, M, h5, h6.to (Nat.le_trans h6.1 st.size) fun b o hB hM ho _ => (st.block b (Nat.lt_of_lt_of_le hM h6.1) (by omega)).trans ho, h7, h8⟩
theorem Boxed.same {W : World} {b : Nat} {u : TypeId} {v v' : Value} (h : Boxed W b u v) (k : Boxed W b u v') : v = v' := by
  unfold Boxed at h k
  rw [h] at k
  injection k with k
  injection k with k
  have := congrArg (fun a : Array Value => a.toList) k
  simpa using this
/-- A post that bars panics. -/
def noPanic (Q : Exit → Act → World → Prop) : Exit → Act → World → Prop
  | .panic _, _, _ => False
  | .normal, a, w => Q .normal a w
  | .ret, a, w => Q .ret a w
  | .exit i, a, w => Q (.exit i) a w
  | .goto i, a, w => Q (.goto i) a w
  | .outgrown, a, w => Q .outgrown a w
theorem wpIn_noPanic {F : Fence} {n : Nat} {P : Program} {c : Code} {Q : Exit → Act → World → Prop} {a : Act} {w : World} (h : c.wpIn F n P (noPanic Q) a w) : c.wpIn F n P Q a w :=
  wpIn_mono h fun e a w h => by cases e <;> first | exact h | exact h.elim
theorem flat9g {α : Type} (L : List α) (f : α → Nd) (i j : Nat) (hj : j < 9) : (L.flatMap fun t => ndC (f t))[i * 9 + j]? = (L[i]?).bind fun t => (ndC (f t))[j]? := by
  induction L generalizing i with
  | nil => simp
  | cons t r ih =>
    rw [List.flatMap_cons]
    cases i with
    | zero => rw [Nat.zero_mul, Nat.zero_add, List.getElem?_append_left (by rw [ndC_len]; exact hj)]; rfl
    | succ i =>
      rw [List.getElem?_append_right (by rw [ndC_len]; omega), ndC_len, show (i + 1) * 9 + j - 9 = i * 9 + j by omega, ih i]
      rfl
/-- One more has been got. -/
theorem got_push {base g0 : Nat} {O K : Nat → Prop} {pre : List Gv} {x : Gv} {w5 W6 W' : World} {Av : Option Addr} {cv g2 cp2 k B M : Nat}
    (hk : pre.length = k) (hg0 : g0 < base) (hOb : ∀ j, O j → base ≤ j) (hOW : ∀ j, O j → j < W6.heap.size) (hKb : ∀ j, K j → j < base ∧ j ≠ g0)
    (hkk : Kk (fun j => j < base ∧ j ≠ g0) w5 W6) (hb6 : base + 2 ≤ W6.heap.size)
    (hown : W6.ownsRow (base + 2) 29 9 (.slice Av k cv) k (pre.flatMap fun x => ndC { x.2.1.1 with tu := x.2.2.1, u := x.2.2.2 }))
    (hvO : ∀ g, (Value.slice Av k cv).ownBlock = some g → ¬ O g)
    (hels : ∀ x ∈ pre, ∃ B M, base + 2 ≤ B ∧ FreshM B M W6 x.2.1.1 x.2.1.2 x.2.2.1 x.2.2.2 ∧ (∀ b, B ≤ b → b < M → ¬ O b) ∧ (∀ g, (Value.slice Av k cv).ownBlock = some g → g < B ∨ M ≤ g))
    (hB2 : base + 2 ≤ B) (hfm : FreshM B M W6 x.2.1.1 x.2.1.2 x.2.2.1 x.2.2.2) (hbO : ∀ b, B ≤ b → b < M → ¬ O b) (hvB : ∀ g, (Value.slice Av k cv).ownBlock = some g → g < B)
    (hat : (Value.slice (some ⟨g2, 0, none⟩) (k + 1) cp2).ownBlock = (Value.slice Av k cv).ownBlock ∨ W6.heap.size ≤ g2)
    (hown' : W'.ownsRow (base + 2) 29 9 (.slice (some ⟨g2, 0, none⟩) (k + 1) cp2) (k + 1) ((pre.flatMap fun x => ndC { x.2.1.1 with tu := x.2.2.1, u := x.2.2.2 }) ++ ndC { x.2.1.1 with tu := x.2.2.1, u := x.2.2.2 }))
    (hbox' : Boxed W' g0 25 (.slice (some ⟨g2, 0, none⟩) (k + 1) cp2))
    (hos : W'.os = W6.os) (htp : W'.tape = W6.tape) (hout : W'.output = W6.output) (hsz : W6.heap.size ≤ W'.heap.size)
    (hWW : ∀ j, j < W6.heap.size → some j ≠ (Value.slice Av k cv).ownBlock → j ≠ g0 → W'.heap[j]? = W6.heap[j]?) :
    Rec base W6 W' ∧ Kx O K W6 W' ∧ Kk (fun j => j < base ∧ j ≠ g0) w5 W' ∧ Got (base + 2) g0 O (pre ++ [x]) W' := by
  have hrow : ∀ j, (Value.slice Av k cv).ownBlock = some j → base + 2 ≤ j := fun j h => (hown.lt j h).1
  have far : ∀ j, j < base + 2 → j ≠ g0 → W'.heap[j]? = W6.heap[j]? := fun j h1 h2 => hWW j (by omega) (fun e => by have := hrow j e.symm; omega) h2
  have hnew : ∀ g, (Value.slice (some ⟨g2, 0, none⟩) (k + 1) cp2).ownBlock = some g → (Value.slice Av k cv).ownBlock = some g ∨ W6.heap.size ≤ g := by
    intro g hg
    rcases hat with h | h
    · exact .inl (h ▸ hg)
    · obtain rfl : g2 = g := by simpa [Value.ownBlock] using hg
      exact .inr h
  have kk : Kk (fun j => j < base ∧ j ≠ g0) W6 W' := ⟨hos, htp, hout, hsz, fun j hj => far j (by omega) hj.2⟩
  have keep : ∀ {B M : Nat} {y : Nd} {p : Te} {tu u : Sl}, base + 2 ≤ B → FreshM B M W6 y p tu u → (∀ g, (Value.slice Av k cv).ownBlock = some g → g < B ∨ M ≤ g) → FreshM B M W' y p tu u := fun h1 h2 h3 => h2.to (Nat.le_trans h2.1 hsz) fun b o hB hM ho _ => (hWW b (Nat.lt_of_lt_of_le hM h2.1) (fun e => by have := h3 b e.symm; omega) (by omega)).trans ho
  refine ⟨fun j hj => far j (by omega) (by omega), ⟨⟨hos, htp, hout, hsz, fun j hj => far j (by have := hKb j hj; omega) (hKb j hj).2⟩, fun j hj => hWW j (hOW j hj) (fun e => hvO j e.symm hj) (by have := hOb j hj; omega)⟩, hkk.trans kk, .slice (some ⟨g2, 0, none⟩) (k + 1) cp2, hbox', ?_, ?_, ?_⟩
  · have e : (pre ++ [x]).length = k + 1 := by simp [hk]
    have e2 : ((pre ++ [x]).flatMap fun x => ndC { x.2.1.1 with tu := x.2.2.1, u := x.2.2.2 }) = (pre.flatMap fun x => ndC { x.2.1.1 with tu := x.2.2.1, u := x.2.2.2 }) ++ ndC { x.2.1.1 with tu := x.2.2.1, u := x.2.2.2 } := by simp
    rw [e, e2]; exact hown'
  · intro g hg hO
    rcases hnew g hg with h | h
    · exact hvO g h hO
    · have := hOW g hO; omega
  · intro y hy
    rcases List.mem_append.1 hy with hy | hy
    · obtain ⟨B', M', h1, h2, h3, h4⟩ := hels y hy
      refine ⟨B', M', h1, keep h1 h2 h4, h3, fun g hg => ?_⟩
      rcases hnew g hg with h | h
      · exact h4 g h
      · have := h2.1; omega
    · obtain rfl : y = x := by simpa using hy
      refine ⟨B, M, hB2, keep hB2 hfm fun g hg => .inl (hvB g hg), hbO, fun g hg => ?_⟩
      rcases hnew g hg with h | h
      · exact .inl (hvB g h)
      · have := hfm.1; omega
set_option maxHeartbeats 16000000 in
set_option maxRecDepth 100000 in
theorem tstops_law (w : World) (x : Nd) (F : Te) (most : Nat) (hm : most < 256) (hx : TmL w.heap.size w (x, F)) :
    Calls Try.prog 5 #[teVal x, .int .u8 most] w fun e w' => e = .returned (.bool true) ∧ Below w.heap.size w w' := by
  obtain ⟨W0, hW0⟩ : ∃ W0, (w.alloc (Obj.cells (ndC x).toArray 29)).alloc (Obj.cells #[.int .u8 most] 5) = W0 := ⟨_, rfl⟩
  have hb0 : Below w.heap.size w W0 := by rw [← hW0]; exact ((Below.refl _ _).alloc (Nat.le_refl _) _).alloc (by simp) _
  have hs0 : W0.heap.size = w.heap.size + 2 := by rw [← hW0]; simp
  have hx0 : W0.heap[w.heap.size]? = some (Obj.cells (ndC x).toArray 29) := by rw [← hW0]; exact (Below.heap_alloc _ _ _ (by simp)).trans (heap_alloc_new w _)
  have hy0 : W0.heap[w.heap.size + 1]? = some (Obj.cells #[.int .u8 most] 5) := by
    rw [← hW0]
    have := heap_alloc_new (w.alloc (Obj.cells (ndC x).toArray 29)) (Obj.cells #[.int .u8 most] 5)
    rwa [World.size_alloc] at this
  have hLx : TmL W0.heap.size W0 (x, F) := hx.up hb0 hb0.size
  have HX0 := Lib.hid (And.intro hx0 (And.intro hy0 (And.intro hs0 hb0)))
  have HLX := Lib.hid (show ∀ W, Below W0.heap.size W0 W → TmL W.heap.size W (x, F) from fun W hW => hLx.up hW hW.size)
  have HA := Lib.hid (show ∀ W, Calls Try.prog 8 #[] W fun e w' => e = .returned (.bool true) ∧ Below W.heap.size W w' from awake05_any)
  have hg1 := egreat_any F x W0 hLx
  obtain ⟨X, hX⟩ : ∃ X : Nd, x = X := ⟨_, rfl⟩
  have NX := Lib.hid (show ∀ W, Below W0.heap.size W0 W → NdAt W w.heap.size 0 x ∧ W.cell? ⟨w.heap.size + 1, 0, none⟩ = some (.int .u8 most) from fun W hW => ⟨NdAt.of_block (T := 29) ((hW.block _ (Array.getElem?_eq_some_iff.1 hx0).1).trans hx0), cell_of_row W _ 0 _ _ (0, 0) ((hW.block _ (Array.getElem?_eq_some_iff.1 hy0).1).trans hy0)⟩)
  have HLI := Lib.hid (fun (h : 1 + F.size ≤ 200) W hW => rlist_any (F.size + 1) F x W (by omega) (by omega) (HLX.out W hW))
  have HAL := Lib.hid (fun (h : 1 + F.size ≤ 200 ∧ OkN x ∧ F.all OkN) W hW => eall_make W x F (HLX.out W hW) (by omega) (Nat.lt_of_le_of_lt h.2.1.2 (by omega)) (Te.all_tyb h.2.2))
  obtain ⟨x0, x1, x2, x3, x4, ⟨xu1, xu2, xu3⟩, x6, ⟨xv1, xv2, xv3⟩, x8, x9⟩ := x
  dsimp only [teVal, ndC, slv] at hW0 hg1 NX HLI HAL ⊢
  rw [← hW0] at hg1
  have HG1 := Lib.hid hg1
  have HW := Lib.hid hW0
  clear hg1 hW0 hb0 hx0 hy0 hLx hx hs0
  refine (callsIn_wide (n := 6)).1 ?_
  refine callsIn_of_wp_marks Try.func5 rfl trivial ?_ rfl
  simp only [Try.ntmps5, List.size_toArray, List.length_cons, List.length_nil, Nat.reduceAdd, Nat.reduceSub, Array.replicate_succ, Array.replicate_zero, List.push_toArray, List.append_toArray, List.nil_append, List.cons_append]
  gi_wp2
  refine ⟨trivial, ?_⟩
  refine (callsIn_wide.2 HG1.out).mono ?_
  rintro e w2 ⟨bg, rfl, hb2, hgo⟩
  rw [HW.out] at hb2
  have HB2 := Lib.hid hb2
  have HGO := Lib.hid hgo
  clear hb2 hgo HG1
  cases bg
  case' true =>
    gi_wp2
    refine ⟨trivial, ?_⟩
    refine (callsIn_wide.2 (HA.out _)).mono ?_
    rintro e w3 ⟨rfl, hb3⟩
    have HB3 := Lib.hid (HX0.out.2.2.2.trans (((HB2.out.trans (hb3.mono HB2.out.size))).mono HX0.out.2.2.2.size))
    clear hb3
    gi_wp2
    exact ⟨_, results_tmp rfl _ _ _, rfl, HB3.out⟩
  have HGR := Lib.hid (HGO.out (by trivial))
  clear HGO
  have hli := HLI.out HGR.out.1 w2 HB2.out
  have HLI2 := Lib.hid hli
  obtain ⟨⟨c0, c1, c2, c3, c4, c5, c6, c7, c8⟩, m0⟩ := NX.out w2 HB2.out
  simp only [Nat.zero_add, slv] at c0 c1 c2 c3 c4 c5 c6 c7 c8
  clear hli HLI
  gi_wp2
  refine ⟨trivial, ?_⟩
  refine (callsIn_wide.2 HLI2.out).mono ?_
  rintro e w3 ⟨lv, rfl, hrd, hb3⟩
  obtain ⟨lA, lc, rfl⟩ := hrd.form
  have HB3 := Lib.hid (show Below W0.heap.size W0 w3 from HB2.out.trans (hb3.mono HB2.out.size))
  have HRD := Lib.hid hrd
  clear hb3 hrd c0 c1 c2 c3 c4 c5 c6 c7 c8 m0 HLI2 HB2
  obtain ⟨w4, hw4⟩ : ∃ w4, w3.alloc (Obj.cells #[.slice none 0 0] 25) = w4 := ⟨_, rfl⟩
  have hb4 : Below w3.heap.size w3 w4 := by rw [← hw4]; exact (Below.refl _ _).alloc (Nat.le_refl _) _
  have hs4 : w4.heap.size = w3.heap.size + 1 := by rw [← hw4]; simp
  have hg4 : Boxed w4 w3.heap.size 25 (.slice none 0 0) := by rw [← hw4]; exact Boxed.new w3 _ _
  have hb04 : Below W0.heap.size W0 w4 := HB3.out.trans (hb4.mono HB3.out.size)
  obtain ⟨⟨c0, c1, c2, c3, c4, c5, c6, c7, c8⟩, m0⟩ := NX.out w4 hb04
  simp only [Nat.zero_add, slv] at c0 c1 c2 c3 c4 c5 c6 c7 c8
  rw [← hw4] at c0 c1 c2 c3 c4 c5 c6 c7 c8
  have hal := HAL.out HGR.out w4 hb04
  rw [← hw4] at hal
  have HAL2 := Lib.hid hal
  have HW4 := Lib.hid (And.intro hw4 (And.intro hb4 (And.intro hs4 (And.intro hg4 hb04))))
  clear hal HAL hw4 hb4 hs4 hg4 hb04
  gi_wp2
  refine ⟨trivial, ?_⟩
  refine (callsIn_wide.2 HAL2.out).mono ?_
  rintro e w5 ⟨Bs, ⟨tu1, tu2, tu3⟩, ⟨u1, u2, u3⟩, rfl, hb5, hBs1, hBs2, hfr⟩
  rw [HW4.out.1] at hb5 hBs1 hfr
  clear c0 c1 c2 c3 c4 c5 c6 c7 c8 m0 HAL2
  have HFR := Lib.hid (And.intro hb5 (And.intro hBs1 (And.intro hBs2 hfr)))
  clear hb5 hBs1 hBs2 hfr
  gi_wp2
  rw [seq_not_nil]
  obtain ⟨hb5, hBs1, hBs2, hfr⟩ := HFR.out
  obtain ⟨hw4, hb4, hs4, hg4, hb04⟩ := HW4.out
  obtain ⟨ty, g, hty, hg, hfix⟩ := hfr.fix
  have hBs3 : Bs < w5.heap.size := (Array.getElem?_eq_some_iff.1 hBs2).1
  have hgs : g.size = F.size := hg.size
  obtain ⟨K, hKe⟩ : ∃ K : Nat → Prop, K = fun k => w4.heap.size ≤ k ∧ k < Bs := ⟨_, rfl⟩
  have hTI : TImg (one_ ⟨x0, x1, x2, x3, x4, (xu1, xu2, xu3), x6, (xv1, xv2, xv3), x8, x9⟩ F) (one_ ⟨x0, x1, x2, x3, x4, (tu1, tu2, tu3), ty, (u1, u2, u3), x8, x9⟩ g) := ⟨⟨rfl, rfl, rfl, rfl, rfl, hty, rfl, rfl⟩, hg, trivial⟩
  have HSEQ := Lib.hid (all1X 5 (by omega) Bs Bs K (fun k hk => by rw [hKe] at hk; exact hk.2) ⟨x0, x1, x2, x3, x4, (tu1, tu2, tu3), ty, (u1, u2, u3), x8, x9⟩ g (by have := HGR.out.1; omega) (timg_tyb hTI ⟨HGR.out.2.1, HGR.out.2.2, trivial⟩) w5 (by omega) hBs2 (fun W' hk => hfix W' fun k h1 h2 => hk.keep k (by rw [hKe]; exact ⟨h1, h2⟩)))
  have HPRE := Lib.hid (timg_pre hTI)
  obtain ⟨L, hL⟩ : ∃ L, (one_ ⟨x0, x1, x2, x3, x4, (tu1, tu2, tu3), ty, (u1, u2, u3), x8, x9⟩ g).pre = L := ⟨_, rfl⟩
  have hLl : L.length = 1 + F.size := by rw [← hL, Te.pre_len]; simp [Te.size, hgs]
  rw [hL] at HSEQ HPRE
  have HLL := Lib.hid hLl
  have hg0 : w3.heap.size < w5.heap.size := by omega
  have hb35 : Below w4.heap.size w4 w5 := hb5
  have hg5 : Boxed w5 w3.heap.size 25 (.slice none 0 0) := (hb35.block _ (by omega)).trans hg4
  obtain ⟨I0, hI0⟩ : ∃ I0 : (Nat → Prop) → List Gv → World → Prop, I0 = fun O pre W => Kk (fun j => j < w5.heap.size ∧ j ≠ w3.heap.size) w5 W ∧ (∀ j, O j → w5.heap.size ≤ j) ∧ Got (w5.heap.size + 2) w3.heap.size O pre W ∧ pre.length ≤ most := ⟨_, rfl⟩
  obtain ⟨IX, hIX⟩ : ∃ IX : Code → (Nat → Prop) → List Gv → World → Prop, IX = fun c O pre W => c = .exit 0 ∧ Kk (fun j => j < w5.heap.size ∧ j ≠ w3.heap.size) w5 W ∧ (∀ j, O j → w5.heap.size ≤ j) ∧ Got (w5.heap.size + 2) w3.heap.size O pre W ∧ pre.length = most + 1 := ⟨_, rfl⟩
  have kkS : ∀ {O : Nat → Prop} {A C : World}, Kk (fun j => j < w5.heap.size ∧ j ≠ w3.heap.size) w5 A → (∀ j, O j → w5.heap.size ≤ j) → Stp O A C → Kk (fun j => j < w5.heap.size ∧ j ≠ w3.heap.size) w5 C := fun hk hO hst => hk.trans ⟨hst.os, hst.tape, hst.output, hst.size, fun j hj => hst.block j (by have := hk.size; omega) fun h => by have := hO j h; omega⟩
  have ooS : ∀ {O O' : Nat → Prop} {A : World}, Kk (fun j => j < w5.heap.size ∧ j ≠ w3.heap.size) w5 A → (∀ j, O j → w5.heap.size ≤ j) → (∀ j, j < A.heap.size → O' j → O j) → ∀ j, O' j → w5.heap.size ≤ j := fun {O O' A} hk hO h j hj => by
    by_cases h2 : j < A.heap.size
    · exact hO j (h j h2 hj)
    · have := hk.size; omega
  have aI : AbS I0 := by
    rw [hI0]
    intro O O' s A C ⟨h1, h2, h3, h4⟩ hst hO
    exact ⟨kkS h1 h2 hst, ooS h1 h2 hO, h3.step hst hO fun h => by have := h2 _ h; omega, h4⟩
  have aX : ∀ c, AbS (IX c) := by
    rw [hIX]
    intro c O O' s A C ⟨hc, h1, h2, h3, h4⟩ hst hO
    exact ⟨hc, kkS h1 h2 hst, ooS h1 h2 hO, h3.step hst hO fun h => by have := h2 _ h; omega, h4⟩
  have kkR : ∀ {A C : World}, Kk (fun j => j < w5.heap.size ∧ j ≠ w3.heap.size) w5 A → Stp (fun k => k = w5.heap.size ∨ k = w5.heap.size + 1) A C → Kk (fun j => j < w5.heap.size ∧ j ≠ w3.heap.size) w5 C := fun hk hst => hk.trans ⟨hst.os, hst.tape, hst.output, hst.size, fun j hj => hst.block j (by have := hk.size; omega) (by omega)⟩
  have rI : ∀ O s A C, I0 O s A → Stp (fun k => k = w5.heap.size ∨ k = w5.heap.size + 1) A C → I0 O s C := by
    rw [hI0]
    rintro O s A C ⟨h1, h2, h3, h4⟩ hst
    exact ⟨kkR h1 hst, h2, h3.rec hst (by omega) hg0, h4⟩
  have rX : ∀ c O s A C, IX c O s A → Stp (fun k => k = w5.heap.size ∨ k = w5.heap.size + 1) A C → IX c O s C := by
    rw [hIX]
    rintro c O s A C ⟨hc, h1, h2, h3, h4⟩ hst
    exact ⟨hc, kkR h1 hst, h2, h3.rec hst (by omega) hg0, h4⟩
  have start : I0 (fun _ => False) [] w5 := by
    rw [hI0]
    exact ⟨Kk.refl _ _, fun _ h => h.elim, ⟨_, hg5, ⟨rfl, .inl ⟨rfl, rfl⟩⟩, fun g h => (by cases h), fun x hx => by cases hx⟩, Nat.zero_le _⟩
  have HI := Lib.hid (And.intro aI (And.intro aX (And.intro rI (And.intro rX start))))
  have HI0 := Lib.hid hI0
  have HIX := Lib.hid hIX
  have hKb : ∀ j, K j → j < w5.heap.size ∧ j ≠ w3.heap.size := fun j hj => by rw [hKe] at hj; omega
  have HKb := Lib.hid hKb
  have HB05 := Lib.hid (show Below W0.heap.size W0 w5 from hb04.trans (hb5.mono hb04.size))
  have hg03 : W0.heap.size ≤ w3.heap.size := HB3.out.size
  have hw0 : w.heap.size + 2 ≤ w3.heap.size := by have := HX0.out.2.2.1; omega
  have HM5 := Lib.hid (show ∀ W, Kk (fun j => j < w5.heap.size ∧ j ≠ w3.heap.size) w5 W → W.cell? ⟨w.heap.size + 1, 0, none⟩ = some (.int .u8 most) from fun W hk => by
    have h1 := (NX.out w5 HB05.out).2
    exact (World.cell?_of_block (hk.keep (w.heap.size + 1) (by constructor <;> omega))).trans h1)
  clear hb5 hBs1 hBs2 hfr hw4 hb4 hs4 hg4 hb04 hty hg hfix hTI hKe hgs aI aX rI rX start hI0 hIX kkS kkR ooS hb35 hg5 hL hLl
  gi_wp2
  refine wpIn_rangeX (by omega) (gf := 36) (lb := #[.pointer (some ⟨Bs, 0, none⟩)]) rfl (enters_of Try.func36 (by kernel_rfl) rfl) HSEQ.out (Below.refl _ _) (fun k hk => (HKb.out k hk).1) (fun _ => rfl)
    I0 IX HI.out.2.2.1 HI.out.2.2.2.1 HI.out.1 HI.out.2.1 HI.out.2.2.2.2
    (fun O pre x a' W => ∃ Bx, W.heap[Bx]? = some (Obj.cells (ndC { x.2.1.1 with tu := x.2.2.1, u := x.2.2.2 }).toArray 29) ∧ (∃ s, pre.map (·.2.1) ++ x.2.1 :: s = L) ∧ (∃ B M vt, w5.heap.size + 2 ≤ B ∧ FreshM B M W x.2.1.1 x.2.1.2 x.2.2.1 x.2.2.2 ∧ (∀ b, B ≤ b → b < M → ¬ O b) ∧ Boxed W w3.heap.size 25 vt ∧ ∀ g, vt.ownBlock = some g → g < B) ∧ a' = { tmps := #[(.agg #[.int .i64 x0, .string x1, .int .i64 x2, .int .i64 x3, .int .i64 x4, .slice xu1 xu2 xu3, .slice xv1 xv2 xv3, .int .i64 x8, .int .i64 x9]), .int .u8 most, .pointer (some ⟨w.heap.size, 0, none⟩), .pointer (some ⟨w.heap.size + 1, 0, none⟩), .bool false, .slice lA (1 + F.size) lc, .pointer (some ⟨w3.heap.size, 0, none⟩), (.func (.func 36) #[] #[.pointer (some ⟨Bs, 0, none⟩)]), undef, .pointer (some ⟨Bx, 0, none⟩), undef, (.agg #[.int .i64 x0, .string x1, .int .i64 x2, .int .i64 x3, .int .i64 x4, .slice xu1 xu2 xu3, .slice xv1 xv2 xv3, .int .i64 x8, .int .i64 x9]), .bool false, undef, (.agg #[.int .i64 x0, .string x1, .int .i64 x2, .int .i64 x3, .int .i64 x4, .slice xu1 xu2 xu3, .slice xv1 xv2 xv3, .int .i64 x8, .int .i64 x9]), .slice lA (1 + F.size) lc, (.agg #[.int .i64 x0, .string x1, .int .i64 x2, .int .i64 x3, .int .i64 x4, .slice xu1 xu2 xu3, .slice xv1 xv2 xv3, .int .i64 x8, .int .i64 x9]), (.func (.func 36) #[] #[.pointer (some ⟨Bs, 0, none⟩)]), (.func (.func 36) #[] #[.pointer (some ⟨Bs, 0, none⟩)]), .bool false, (.func (.func 36) #[] #[.pointer (some ⟨Bs, 0, none⟩)]), .int .i64 x.1, teVal { x.2.1.1 with tu := x.2.2.1, u := x.2.2.2 }, undef, undef, undef, undef, undef, undef, undef, undef, undef, undef, undef, undef, undef, undef, undef, undef, undef, undef, undef, undef, undef, undef, undef, undef, undef, undef, undef, undef, undef, undef, undef, undef, undef, undef, undef, undef, undef], defers := [] })
    (fun O pre x a' s W W' row hs hg hr => by
      obtain ⟨Bx, hc, hp, ⟨B, M, vt, h1, h2, h3, h4, h5⟩, ha⟩ := hs
      refine ⟨Bx, (hg.block Bx (Array.getElem?_eq_some_iff.1 hc).1 fun e => ?_).trans hc, hp, ⟨B, M, vt, h1, h2.own hg fun r e => (hr r e).2, h3, (hg.block _ h4.lt fun e => ?_).trans h4, h5⟩, ha⟩
      · obtain ⟨o, ho, hoc⟩ := (hr Bx e.symm).2
        rw [hc] at ho
        cases ho
        cases hoc
      · have := (hr _ e.symm).1
        omega) ?assign ?body ?done ?stop
  case assign =>
    rintro l2 O pre x W Kc hi ⟨Jh, hJh, hi1, hseg, W2, hj2, hb2, hbs, hfm, hbO⟩ hsz hO hK
    obtain ⟨i, ⟨⟨z0, z1, z2, z3, z4, ⟨zu1, zu2, zu3⟩, z6, ⟨zv1, zv2, zv3⟩, z8, z9⟩, zp⟩, ⟨e1, e2, e3⟩, ⟨o1, o2, o3⟩⟩ := x
    have hi2 := hJh W2 hj2
    rw [HI0.out] at hi2
    obtain ⟨_, _, ⟨vt, bv, hown, _, _⟩, _⟩ := hi2
    have hal : Below W.heap.size W (W.alloc (Obj.cells #[.int .i64 z0, .string z1, .int .i64 z2, .int .i64 z3, .int .i64 z4, .slice e1 e2 e3, .slice o1 o2 o3, .int .i64 z8, .int .i64 z9] 29)) := (Below.refl _ _).alloc (Nat.le_refl _) _
    have HALL := Lib.hid (show I0 O pre (W.alloc (Obj.cells #[.int .i64 z0, .string z1, .int .i64 z2, .int .i64 z3, .int .i64 z4, .slice e1 e2 e3, .slice o1 o2 o3, .int .i64 z8, .int .i64 z9] 29)) ∧ (∃ B M vt, w5.heap.size + 2 ≤ B ∧ FreshM B M (W.alloc (Obj.cells #[.int .i64 z0, .string z1, .int .i64 z2, .int .i64 z3, .int .i64 z4, .slice e1 e2 e3, .slice o1 o2 o3, .int .i64 z8, .int .i64 z9] 29)) ⟨z0, z1, z2, z3, z4, (zu1, zu2, zu3), z6, (zv1, zv2, zv3), z8, z9⟩ zp (e1, e2, e3) (o1, o2, o3) ∧ (∀ b, B ≤ b → b < M → ¬ O b) ∧ Boxed (W.alloc (Obj.cells #[.int .i64 z0, .string z1, .int .i64 z2, .int .i64 z3, .int .i64 z4, .slice e1 e2 e3, .slice o1 o2 o3, .int .i64 z8, .int .i64 z9] 29)) w3.heap.size 25 vt ∧ ∀ g, vt.ownBlock = some g → g < B) from
      ⟨HI.out.1 _ _ _ _ _ hi (Stp.of_below hal) fun _ _ h => h, W2.heap.size, W.heap.size, vt, hbs, hfm.below hal, hbO, (hal.block _ (by have := hb2.size; have := bv.lt; omega)).trans ((hb2.block _ bv.lt).trans bv), fun g hg => (hown.lt g hg).2⟩)
    have HSG := Lib.hid hseg
    dsimp only [gvE, teVal, slv] at hK ⊢
    clear hi hseg hj2 hb2 hfm hbO bv hown hi1
    gi_wp2
    exact hK _ _ (Rec.of_below hal (by omega)) (Kx.of_below hal (fun k hk => by have := HKb.out k hk; omega) fun k hk => (hO k hk).2) HALL.out.1 ⟨W.heap.size, heap_alloc_new W _, HSG.out, HALL.out.2, rfl⟩
  case body =>
    rintro l2 O pre x a' W6 hl hi hsz hO ⟨Bx, hc, hseg, ⟨B, M, vt0, hB2, hfm, hbO, hv0, hvB⟩, rfl⟩
    rw [HI0.out] at hi
    obtain ⟨hkk, hOb, ⟨vt, bv, hown, hvO, hels⟩, hlen⟩ := hi
    obtain rfl := Boxed.same hv0 bv
    clear hv0
    obtain ⟨i, ⟨⟨z0, z1, z2, z3, z4, ⟨zu1, zu2, zu3⟩, z6, ⟨zv1, zv2, zv3⟩, z8, z9⟩, zp⟩, ⟨e1, e2, e3⟩, ⟨o1, o2, o3⟩⟩ := x
    have HBX := Lib.hid (Array.getElem?_eq_some_iff.1 hc).1
    obtain ⟨a0, a1, a2, a3, a4, a5, a6, a7, a8⟩ := NdAt.of_block hc
    dsimp only [gvE, teVal, slv] at a0 a1 a2 a3 a4 a5 a6 a7 a8 ⊢
    simp only [Nat.zero_add] at a0 a1 a2 a3 a4 a5 a6 a7 a8
    obtain ⟨Av, cv, rfl, hk1, hk2⟩ := own_form hown
    obtain ⟨i0, hi0, hz0', hz1', hz2'⟩ := info_parts teInfo
    obtain ⟨k, hk⟩ : ∃ k, pre.length = k := ⟨_, rfl⟩
    have hkb : k ≤ 300 := by omega
    rw [hk] at hown bv hvO hels hvB hlen hk1
    obtain ⟨W7, hW7⟩ : ∃ W7, W7 = (W6.alloc (.cells #[.int .i64 0, .string ⟨#[]⟩, .int .i64 0, .int .i64 0, .int .i64 0, .slice none 0 0, .slice none 0 0, .int .i64 0, .int .i64 0] 29)).drew := ⟨_, rfl⟩
    have own1 : W7.ownsRow (w5.heap.size + 2) 29 9 (.slice Av k cv) k (pre.flatMap fun x => ndC { x.2.1.1 with tu := x.2.2.1, u := x.2.2.2 }) := by rw [hW7]; exact hown.alloc _
    have rd1 : Rd W7 9 (.slice (some ⟨W6.heap.size, 0, none⟩) 1 1) 1 [.int .i64 0, .string ⟨#[]⟩, .int .i64 0, .int .i64 0, .int .i64 0, .slice none 0 0, .slice none 0 0, .int .i64 0, .int .i64 0] := by
      rw [hW7]; exact rd_new W6 [.int .i64 0, .string ⟨#[]⟩, .int .i64 0, .int .i64 0, .int .i64 0, .slice none 0 0, .slice none 0 0, .int .i64 0, .int .i64 0] 29 9 1 rfl (by unfold maxLen; omega)
    obtain ⟨v1, w1, hrun, hown1, hg1, hat⟩ := run_append_rd (P := Try.prog) W7 (w5.heap.size + 2) 25 25 29 i0 _ 9 112 Try.underlying25 hi0 hz0' hz1' hz2' rfl (by omega) (.slice Av k cv) k _ own1 _ 1 _ rd1 (by simp [Value.oneCell']) (by unfold maxLen; omega) (by omega) (by rw [hW7]; simp; omega)
    obtain ⟨g2, cp2, rfl, hgg0, hg2'⟩ := own_shape hown1 (by omega)
    have hrun2 : (app_ #[25, 25] 25 #[.slice Av k cv, .slice (some ⟨W6.heap.size, 0, none⟩) 1 1]).run Try.prog W7 = .ok (.slice (some ⟨g2, 0, none⟩) (k + 1) cp2) w1 := hrun
    rw [hW7] at hrun2
    have hxl : (pre.flatMap fun x => ndC { x.2.1.1 with tu := x.2.2.1, u := x.2.2.2 }).length = k * 9 := hown.1
    have q0 : w1.cell? ⟨g2, k * 9, none⟩ = some (.int .i64 0) := by rw [hown1.cellAt _ (by omega), List.getElem?_append_right (by omega), hxl]; simp
    have qf0 : w1.frozen? ⟨g2, k * 9, none⟩ = false := hown1.frozenAt _
    have q1 : w1.cell? ⟨g2, k * 9 + 1, none⟩ = some (.string ⟨#[]⟩) := by rw [hown1.cellAt _ (by omega), List.getElem?_append_right (by omega), hxl]; simp
    have qf1 : w1.frozen? ⟨g2, k * 9 + 1, none⟩ = false := hown1.frozenAt _
    have q2 : w1.cell? ⟨g2, k * 9 + 2, none⟩ = some (.int .i64 0) := by rw [hown1.cellAt _ (by omega), List.getElem?_append_right (by omega), hxl]; simp
    have qf2 : w1.frozen? ⟨g2, k * 9 + 2, none⟩ = false := hown1.frozenAt _
    have q3 : w1.cell? ⟨g2, k * 9 + 3, none⟩ = some (.int .i64 0) := by rw [hown1.cellAt _ (by omega), List.getElem?_append_right (by omega), hxl]; simp
    have qf3 : w1.frozen? ⟨g2, k * 9 + 3, none⟩ = false := hown1.frozenAt _
    have q4 : w1.cell? ⟨g2, k * 9 + 4, none⟩ = some (.int .i64 0) := by rw [hown1.cellAt _ (by omega), List.getElem?_append_right (by omega), hxl]; simp
    have qf4 : w1.frozen? ⟨g2, k * 9 + 4, none⟩ = false := hown1.frozenAt _
    have q5 : w1.cell? ⟨g2, k * 9 + 5, none⟩ = some (.slice none 0 0) := by rw [hown1.cellAt _ (by omega), List.getElem?_append_right (by omega), hxl]; simp
    have qf5 : w1.frozen? ⟨g2, k * 9 + 5, none⟩ = false := hown1.frozenAt _
    have q6 : w1.cell? ⟨g2, k * 9 + 6, none⟩ = some (.slice none 0 0) := by rw [hown1.cellAt _ (by omega), List.getElem?_append_right (by omega), hxl]; simp
    have qf6 : w1.frozen? ⟨g2, k * 9 + 6, none⟩ = false := hown1.frozenAt _
    have q7 : w1.cell? ⟨g2, k * 9 + 7, none⟩ = some (.int .i64 0) := by rw [hown1.cellAt _ (by omega), List.getElem?_append_right (by omega), hxl]; simp
    have qf7 : w1.frozen? ⟨g2, k * 9 + 7, none⟩ = false := hown1.frozenAt _
    have q8 : w1.cell? ⟨g2, k * 9 + 8, none⟩ = some (.int .i64 0) := by rw [hown1.cellAt _ (by omega), List.getElem?_append_right (by omega), hxl]; simp
    have qf8 : w1.frozen? ⟨g2, k * 9 + 8, none⟩ = false := hown1.frozenAt _
    have bv1 : Boxed w1 w3.heap.size 25 (.slice Av k cv) := by
      refine Boxed.kept (W := W7) (by rw [hW7]; exact bv.alloc _) hg1 (bv.not_row (by decide) hown)
    have bc := bv.cell
    have bf := bv.frozen
    have bc1 := bv1.cell
    have bf1 := bv1.frozen
    have hlb : w3.heap.size < W6.heap.size := bv.lt
    have hgb : g2 ≠ w3.heap.size := by
      rintro rfl
      exact bv1.not_row (by decide) hown1 (by simp [Value.ownBlock])
    have hkk0 : (0 : Int) ≤ (k : Int) := by omega
    have hkk1 : (k : Int) < (k : Int) + 1 := by omega
    have hWw : ∀ j, j < W6.heap.size → some j ≠ (Value.slice Av k cv).ownBlock → w1.heap[j]? = W6.heap[j]? := by
      intro j hj hne
      rw [hg1.block j (by rw [hW7]; simp; omega) hne, hW7]
      exact Below.heap_alloc _ _ _ hj
    have hszw : W6.heap.size ≤ w1.heap.size := by have := hg1.size; rw [hW7] at this; simp at this; omega
    have hatW : (.slice (some ⟨g2, 0, none⟩) (k + 1) cp2 : Value).ownBlock = (Value.slice Av k cv).ownBlock ∨ W6.heap.size ≤ g2 := by
      rcases hat with h | h
      · exact .inl h
      · right
        have : g2 = W7.heap.size := by simpa [Value.ownBlock] using h
        rw [this, hW7]; simp
    have ho1 : w1.os = W6.os := by rw [hg1.os, hW7]; rfl
    have ho2 : w1.tape = W6.tape := by rw [hg1.tape, hW7]; rfl
    have ho3 : w1.output = W6.output := by rw [hg1.output, hW7]; rfl
    have hgne : ∀ j, j < W6.heap.size → some j ≠ (Value.slice Av k cv).ownBlock → j ≠ g2 := by
      rintro j hj hne rfl
      rcases hatW with h | h
      · exact hne (by rw [← h]; rfl)
      · omega
    obtain ⟨WA, hWA⟩ : ∃ WA, (set9 w1 g2 (k * 9) ⟨z0, z1, z2, z3, z4, (e1, e2, e3), z6, (o1, o2, o3), z8, z9⟩).setCell ⟨w3.heap.size, 0, none⟩ (.slice (some ⟨g2, 0, none⟩) (k + 1) cp2) = WA := ⟨_, rfl⟩
    obtain ⟨WB, hWB⟩ : ∃ WB, set9 (w1.setCell ⟨w3.heap.size, 0, none⟩ (.slice (some ⟨g2, 0, none⟩) (k + 1) cp2)) g2 (k * 9) ⟨z0, z1, z2, z3, z4, (e1, e2, e3), z6, (o1, o2, o3), z8, z9⟩ = WB := ⟨_, rfl⟩
    have push := fun (W' : World) => got_push (W' := W') (K := K) (x := (i, ((⟨z0, z1, z2, z3, z4, (zu1, zu2, zu3), z6, (zv1, zv2, zv3), z8, z9⟩ : Nd), zp), (e1, e2, e3), (o1, o2, o3))) hk hg0 hOb (fun j hj => (hO j hj).2) HKb.out hkk hsz hown hvO hels hB2 hfm hbO hvB hatW
    have FA := Lib.hid (show (Rec w5.heap.size W6 WA ∧ Kx O K W6 WA ∧ Kk (fun j => j < w5.heap.size ∧ j ≠ w3.heap.size) w5 WA ∧ Got (w5.heap.size + 2) w3.heap.size O (pre ++ [(i, ((⟨z0, z1, z2, z3, z4, (zu1, zu2, zu3), z6, (zv1, zv2, zv3), z8, z9⟩ : Nd), zp), (e1, e2, e3), (o1, o2, o3))]) WA) ∧ Boxed WA w3.heap.size 25 (.slice (some ⟨g2, 0, none⟩) (k + 1) cp2) from by
      obtain ⟨r1, r2⟩ := set9_own ⟨z0, z1, z2, z3, z4, (e1, e2, e3), z6, (o1, o2, o3), z8, z9⟩ hxl rfl hown1
      have r3 := grownBy_setCell' (set9 w1 g2 (k * 9) ⟨z0, z1, z2, z3, z4, (e1, e2, e3), z6, (o1, o2, o3), z8, z9⟩) w3.heap.size (.slice (some ⟨g2, 0, none⟩) (k + 1) cp2)
      have hbx : Boxed WA w3.heap.size 25 (.slice (some ⟨g2, 0, none⟩) (k + 1) cp2) := by rw [← hWA]; exact ((bv1.kept r2 (by simp; omega)).set _)
      refine ⟨push WA (by rw [← hWA]; exact r1.kept r3 (.inr (by simp [Value.ownBlock]; exact hgb))) hbx (by rw [← hWA]; exact r3.os.trans (r2.os.trans ho1)) (by rw [← hWA]; exact r3.tape.trans (r2.tape.trans ho2)) (by rw [← hWA]; exact r3.output.trans (r2.output.trans ho3)) (by rw [← hWA]; exact Nat.le_trans hszw (Nat.le_trans r2.size r3.size)) ?_, hbx⟩
      intro j hj hne hnb
      rw [← hWA, r3.block j (by have := r2.size; omega) (by simp; exact hnb), r2.block j (by omega) (by simp; exact hgne j hj hne)]
      exact hWw j hj hne)
    have FB := Lib.hid (show (Rec w5.heap.size W6 WB ∧ Kx O K W6 WB ∧ Kk (fun j => j < w5.heap.size ∧ j ≠ w3.heap.size) w5 WB ∧ Got (w5.heap.size + 2) w3.heap.size O (pre ++ [(i, ((⟨z0, z1, z2, z3, z4, (zu1, zu2, zu3), z6, (zv1, zv2, zv3), z8, z9⟩ : Nd), zp), (e1, e2, e3), (o1, o2, o3))]) WB) ∧ Boxed WB w3.heap.size 25 (.slice (some ⟨g2, 0, none⟩) (k + 1) cp2) from by
      have r3 := grownBy_setCell' w1 w3.heap.size (.slice (some ⟨g2, 0, none⟩) (k + 1) cp2)
      obtain ⟨r1, r2⟩ := set9_own ⟨z0, z1, z2, z3, z4, (e1, e2, e3), z6, (o1, o2, o3), z8, z9⟩ hxl rfl (hown1.kept r3 (.inr (by simp [Value.ownBlock]; exact hgb)))
      have hbx : Boxed WB w3.heap.size 25 (.slice (some ⟨g2, 0, none⟩) (k + 1) cp2) := by rw [← hWB]; exact ((bv1.set _).kept r2 (by simp; omega))
      refine ⟨push WB (by rw [← hWB]; exact r1) hbx (by rw [← hWB]; exact r2.os.trans (r3.os.trans ho1)) (by rw [← hWB]; exact r2.tape.trans (r3.tape.trans ho2)) (by rw [← hWB]; exact r2.output.trans (r3.output.trans ho3)) (by rw [← hWB]; exact Nat.le_trans hszw (Nat.le_trans r3.size r2.size)) ?_, hbx⟩
      intro j hj hne hnb
      rw [← hWB, r2.block j (by have := r3.size; omega) (by simp; exact hgne j hj hne), r3.block j (by omega) (by simp; exact hnb)]
      exact hWw j hj hne)
    have bA := FA.out.2.cell
    have bB := FB.out.2.cell
    have mA := HM5.out WA FA.out.1.2.2.1
    have mB := HM5.out WB FB.out.1.2.2.1
    have hWA' : ((((((((((w1.setCell ⟨g2, k * 9, none⟩ (.int .i64 z0)).setCell ⟨g2, k * 9 + 1, none⟩ (.string z1)).setCell ⟨g2, k * 9 + 2, none⟩ (.int .i64 z2)).setCell ⟨g2, k * 9 + 3, none⟩ (.int .i64 z3)).setCell ⟨g2, k * 9 + 4, none⟩ (.int .i64 z4)).setCell ⟨g2, k * 9 + 5, none⟩ (.slice e1 e2 e3)).setCell ⟨g2, k * 9 + 6, none⟩ (.slice o1 o2 o3)).setCell ⟨g2, k * 9 + 7, none⟩ (.int .i64 z8)).setCell ⟨g2, k * 9 + 8, none⟩ (.int .i64 z9)).setCell ⟨w3.heap.size, 0, none⟩ (.slice (some ⟨g2, 0, none⟩) (k + 1) cp2)) = WA := hWA
    have hWB' : ((((((((((w1.setCell ⟨w3.heap.size, 0, none⟩ (.slice (some ⟨g2, 0, none⟩) (k + 1) cp2)).setCell ⟨g2, k * 9, none⟩ (.int .i64 z0)).setCell ⟨g2, k * 9 + 1, none⟩ (.string z1)).setCell ⟨g2, k * 9 + 2, none⟩ (.int .i64 z2)).setCell ⟨g2, k * 9 + 3, none⟩ (.int .i64 z3)).setCell ⟨g2, k * 9 + 4, none⟩ (.int .i64 z4)).setCell ⟨g2, k * 9 + 5, none⟩ (.slice e1 e2 e3)).setCell ⟨g2, k * 9 + 6, none⟩ (.slice o1 o2 o3)).setCell ⟨g2, k * 9 + 7, none⟩ (.int .i64 z8)).setCell ⟨g2, k * 9 + 8, none⟩ (.int .i64 z9)) = WB := hWB
    have HLN := Lib.hid (show (pre ++ [(i, ((⟨z0, z1, z2, z3, z4, (zu1, zu2, zu3), z6, (zv1, zv2, zv3), z8, z9⟩ : Nd), zp), (e1, e2, e3), (o1, o2, o3))]).length = k + 1 from by simp [hk])
    have HOB := Lib.hid hOb
    clear hWA hWB push hxl hWw hszw hatW ho1 ho2 ho3 hgne hrun hown1 hg1 hat own1 rd1 bv bv1 hown hvO hels hfm hbO hvB hk hW7 hc hseg hkk hOb hO
    have hmix : Try.prog.follows Departure.mixedOrders = true := by kernel_rfl
    have hBxl : Bx < W6.heap.size := HBX.out
    have hm1 : (0 : Int) ≤ (most : Int) := by omega
    have hm2 : (most : Int) ≤ 255 := by omega
    by_cases hgt : most < k + 1
    · have fgt : decide ((most : Int) < (k : Int) + 1) = true := decide_eq_true (by omega)
      have GA := Lib.hid (show ∀ act_ : Act, postX w5.heap.size (Kx O K) (I0 O) (fun c s W' => IX c O s W' ∧ Kx O K W6 W') (pre ++ [(i, ((⟨z0, z1, z2, z3, z4, (zu1, zu2, zu3), z6, (zv1, zv2, zv3), z8, z9⟩ : Nd), zp), (e1, e2, e3), (o1, o2, o3))]) W6 (.exit 0) act_ WA from fun _ => ⟨FA.out.1.1, by rw [HIX.out]; exact ⟨rfl, FA.out.1.2.2.1, HOB.out, FA.out.1.2.2.2, by rw [HLN.out]; omega⟩, FA.out.1.2.1⟩)
      have GB := Lib.hid (show ∀ act_ : Act, postX w5.heap.size (Kx O K) (I0 O) (fun c s W' => IX c O s W' ∧ Kx O K W6 W') (pre ++ [(i, ((⟨z0, z1, z2, z3, z4, (zu1, zu2, zu3), z6, (zv1, zv2, zv3), z8, z9⟩ : Nd), zp), (e1, e2, e3), (o1, o2, o3))]) W6 (.exit 0) act_ WB from fun _ => ⟨FB.out.1.1, by rw [HIX.out]; exact ⟨rfl, FB.out.1.2.2.1, HOB.out, FB.out.1.2.2.2, by rw [HLN.out]; omega⟩, FB.out.1.2.1⟩)
      clear FA FB HLN HOB
      gi_wp2
      gi_region_with_o (fail)
      all_goals gi_wp2
      all_goals
        first
          | with_reducible exact GA.out _
          | with_reducible exact GB.out _
    · have fgt : decide ((most : Int) < (k : Int) + 1) = false := decide_eq_false (by omega)
      have GA := Lib.hid (show ∀ act_ : Act, postX w5.heap.size (Kx O K) (I0 O) (fun c s W' => IX c O s W' ∧ Kx O K W6 W') (pre ++ [(i, ((⟨z0, z1, z2, z3, z4, (zu1, zu2, zu3), z6, (zv1, zv2, zv3), z8, z9⟩ : Nd), zp), (e1, e2, e3), (o1, o2, o3))]) W6 .normal act_ WA from fun _ => ⟨FA.out.1.1, FA.out.1.2.1, by rw [HI0.out]; exact ⟨FA.out.1.2.2.1, HOB.out, FA.out.1.2.2.2, by rw [HLN.out]; omega⟩⟩)
      have GB := Lib.hid (show ∀ act_ : Act, postX w5.heap.size (Kx O K) (I0 O) (fun c s W' => IX c O s W' ∧ Kx O K W6 W') (pre ++ [(i, ((⟨z0, z1, z2, z3, z4, (zu1, zu2, zu3), z6, (zv1, zv2, zv3), z8, z9⟩ : Nd), zp), (e1, e2, e3), (o1, o2, o3))]) W6 .normal act_ WB from fun _ => ⟨FB.out.1.1, FB.out.1.2.1, by rw [HI0.out]; exact ⟨FB.out.1.2.2.1, HOB.out, FB.out.1.2.2.2, by rw [HLN.out]; omega⟩⟩)
      clear FA FB HLN HOB
      gi_wp2
      gi_region_with_o (fail)
      all_goals gi_wp2
      all_goals
        first
          | with_reducible exact GA.out _
          | with_reducible exact GB.out _
  case done =>
    rintro D O xs W hD hxs hi hDe hK
    subst hDe
    rw [HI0.out] at hi
    obtain ⟨hkk, hOb, hgot, hlen⟩ := hi
    have hxl : xs.length = 1 + F.size := by rw [← HLL.out, ← hxs, List.length_map]
    obtain ⟨m, hm⟩ : ∃ m, xs.length = m := ⟨_, rfl⟩
    have hmm : m = min (1 + F.size) (most + 1) := by omega
    have hseg : xs.map (·.2.1) ++ [] = L := by rw [List.append_nil]; exact hxs
    clear hxs hlen hxl
    have hm2 : m ≤ 201 := by have := HGR.out.1; omega
    have hxm : ∀ (j : Nat) (y : Gv), xs[j]? = some y → L[j]? = some y.2.1 := fun j y hy => by
      rw [← hseg, List.getElem?_append_left (by rw [List.length_map]; exact (List.getElem?_eq_some_iff.1 hy).1), List.getElem?_map, hy]
      rfl
    obtain ⟨vt, bv, hown, hvO, hels⟩ := hgot
    obtain ⟨Av, cv, rfl, hk1, hk2⟩ := own_form hown
    rw [hm] at bv hown hels hk1
    have bc := bv.cell
    have mm := HM5.out W hkk
    have HALL := Lib.hid (And.intro bv (And.intro hown (And.intro hels (And.intro hxm (And.intro hkk hm)))))
    have HKK := Lib.hid hK
    have hmn1 : (m : Int) = min ((1 + F.size : Nat) : Int) ((most : Int) + 1) := by omega
    have hml : (0 : Int) ≤ (most : Int) := by omega
    have hmu : (most : Int) ≤ 255 := by omega
    have hm0 : 0 < m := by omega
    obtain ⟨gr, cr, hsl, hgr1, hgr2⟩ := own_shape hown hm0
    injection hsl with hAv _ hcv
    subst hAv; subst hcv
    obtain ⟨lb, loff, lcap, hlv, hlc1, hlc2, hlt, hlC⟩ := HRD.out.2.resolve_left (by rintro ⟨h, _⟩; omega)
    injection hlv with hlA _ hlcc
    subst hlA; subst hlcc
    have hg0W : w3.heap.size < W.heap.size := bv.lt
    have hszW := hkk.size
    have hBW : Below W0.heap.size W0 W := HB05.out.trans ⟨hkk.os, hkk.tape, hkk.output, hkk.size, fun q hq => hkk.keep q (by constructor <;> omega)⟩
    have HEL := Lib.hid (show ∀ j, j < m → ∃ (z o : Nd), ∀ wr, Below W.heap.size W wr → NdAt wr gr (j * 9) z ∧ NdAt wr lb (loff + j * 9) o ∧ Calls Try.prog 18 #[teVal z, teVal o] wr fun e w' => e = .returned (.bool true) ∧ Below wr.heap.size wr w' from fun j hj => by
      obtain ⟨y, hy⟩ : ∃ y, xs[j]? = some y := ⟨xs[j]'(by omega), List.getElem?_eq_getElem (by omega)⟩
      have hym : y ∈ xs := List.mem_of_getElem? hy
      obtain ⟨B', M', _, hfm, _, _⟩ := hels y hym
      obtain ⟨s, hs, hsn, hst⟩ := tmR_at HPRE.out j y.2.1 (hxm j y hy)
      refine ⟨{ y.2.1.1 with tu := y.2.2.1, u := y.2.2.2 }, s.1, fun wr hbr => ⟨NdAt.of_cells fun i u hu => ?_, NdAt.of_cells fun i u hu => ?_, ?_⟩⟩
      · have hi : i < 9 := (List.getElem?_eq_some_iff.1 hu).1
        refine (hbr.cell (p := ⟨gr, j * 9 + i, none⟩) hgr2).trans ?_
        rw [hown.cellAt _ (by omega), flat9g _ _ _ _ hi, hy]
        exact hu
      · have hi : i < 9 := (List.getElem?_eq_some_iff.1 hu).1
        have h1 : w3.cell? ⟨lb, loff + (j * 9 + i), none⟩ = some u := hlC (j * 9 + i) u (by
          rw [preC, flat9 _ _ _ hi]
          have hs' : ((⟨x0, x1, x2, x3, x4, (xu1, xu2, xu3), x6, (xv1, xv2, xv3), x8, x9⟩, F) :: F.pre : List Tm)[j]? = some s := by
            have : (one_ ⟨x0, x1, x2, x3, x4, (xu1, xu2, xu3), x6, (xv1, xv2, xv3), x8, x9⟩ F).pre = ((⟨x0, x1, x2, x3, x4, (xu1, xu2, xu3), x6, (xv1, xv2, xv3), x8, x9⟩, F) :: F.pre : List Tm) := by simp [Te.pre]
            rw [← this]; exact hs
          rw [hs']
          exact hu)
        have h2 : wr.heap[lb]? = w3.heap[lb]? := by
          refine (hbr.block lb (by omega)).trans ((hkk.keep lb (by constructor <;> omega)).trans ?_)
          exact (HFR.out.1.block lb (by have := HW4.out.2.2.1; omega)).trans (HW4.out.2.1.block lb hlt)
        rw [show loff + j * 9 + i = loff + (j * 9 + i) by omega]
        exact (World.cell?_of_block h2).trans h1
      · obtain ⟨ty', g', hty', hg', hTy, hTe⟩ := (hfm.below hbr).now
        have hTs : TmL wr.heap.size wr s := TeL.pre (f := one_ ⟨x0, x1, x2, x3, x4, (xu1, xu2, xu3), x6, (xv1, xv2, xv3), x8, x9⟩ F) ⟨HLX.out wr (hBW.trans (hbr.mono hBW.size)), trivial⟩ s (List.mem_of_getElem? hs)
        have hsz := Te.size_pre (one_ ⟨x0, x1, x2, x3, x4, (xu1, xu2, xu3), x6, (xv1, xv2, xv3), x8, x9⟩ F) s (List.mem_of_getElem? hs)
        have hok := Te.all_pre (f := one_ ⟨x0, x1, x2, x3, x4, (xu1, xu2, xu3), x6, (xv1, xv2, xv3), x8, x9⟩ F) (P := OkN) ⟨HGR.out.2.1, HGR.out.2.2, trivial⟩ s (List.mem_of_getElem? hs)
        have hF2 := HGR.out.1
        have hNN : NdI s.1 { y.2.1.1 with tu := y.2.2.1, u := y.2.2.2, ty := ty' } := ndI_trans hsn ⟨rfl, rfl, rfl, rfl, rfl, hty', rfl, rfl⟩
        have hTT := timg_trans hst hg'
        have tS : s.1.ty.size ≤ 1000000 := Nat.le_trans hok.1.2 (by omega)
        have tA : s.2.all (fun x => x.ty.size ≤ 1000000) := Te.all_mono hok.2 fun x h => Nat.le_trans h.2 (by omega)
        have h := requal_any { y.2.1.1 with tu := y.2.2.1, u := y.2.2.2, ty := ty' } s.1 g' s.2 wr (by rw [hTT.size]; simp only [Te.size] at hsz; omega) (by simp only [Te.size] at hsz; omega) ⟨hTy, hTe⟩ hTs (ndI_tys hNN tS) tS (timg_tys hTT tA) tA
        rw [ndI_two hNN (ndI_refl s.1), timg_two hTT (timg_refl s.2)] at h
        exact h)
    have HBW := Lib.hid (show Below w.heap.size w W from HX0.out.2.2.2.trans (hBW.mono HX0.out.2.2.2.size))
    clear bv hown hels hxm hkk hm hK hseg hvO hlC hBW HALL
    gi_wp2
    all_goals
      gi_loopw [10] (fun t10 wr => ∃ j : Nat, j ≤ m ∧ t10 = .int .i64 j ∧ Below W.heap.size W wr) (fun t10 _ => m - (intOf t10).toNat)
      case atStart => exact ⟨0, Nat.zero_le _, rfl, Below.refl _ _⟩
      case round =>
        obtain ⟨j, hj, rfl, hbr⟩ := hrel
        have bcr : wr.cell? ⟨w3.heap.size, 0, none⟩ = some (.slice (some ⟨gr, 0, none⟩) m cv) := (hbr.cell (p := ⟨w3.heap.size, 0, none⟩) hg0W).trans bc
        by_cases hjm : j < m
        · obtain ⟨z, o, hzo⟩ := HEL.out j hjm
          obtain ⟨nz, no, _⟩ := hzo wr hbr
          obtain ⟨_, _, hcl⟩ := hzo wr.drew (hbr.trans (Below.refl _ wr).drew)
          obtain ⟨z0, z1, z2, z3, z4, ⟨zu1, zu2, zu3⟩, z6, ⟨zv1, zv2, zv3⟩, z8, z9⟩ := z
          obtain ⟨o0, o1, o2, o3, o4, ⟨ou1, ou2, ou3⟩, o6, ⟨ov1, ov2, ov3⟩, o8, o9⟩ := o
          obtain ⟨a0, a1, a2, a3, a4, a5, a6, a7, a8⟩ := nz
          obtain ⟨d0, d1, d2, d3, d4, d5, d6, d7, d8⟩ := no
          dsimp only [teVal, slv] at a5 a6 d5 d6 hcl
          have HCL := Lib.hid hcl
          have HBR := Lib.hid hbr
          have hjN : j < 1 + F.size := by omega
          have hmix : Try.prog.follows Departure.mixedOrders = true := by kernel_rfl
          clear hcl hzo hbr
          gi_wp2
          refine wpIn_noPanic ?_
          gi_region_with_o (refine ⟨trivial, ?_⟩; gi_at_call 18; refine (callsIn_wide.2 HCL.out).mono ?_; rintro e w6 ⟨rfl, hb6⟩)
          all_goals
            have HB6 := Lib.hid (HBR.out.trans ((Below.refl _ wr).drew.trans hb6 |>.mono HBR.out.size))
            clear hb6
            dsimp only [noPanic]
            gi_wp2
            go_roundw
            case rel => exact ⟨j + 1, by omega, by go_num, HB6.out⟩
            case measure => simp [intOf]; omega
        · obtain rfl : j = m := by omega
          have HBR := Lib.hid hbr
          clear hbr
          gi_wp2
          refine ⟨trivial, ?_⟩
          refine (callsIn_wide.2 (HA.out _)).mono ?_
          rintro e w7 ⟨rfl, hb7⟩
          have HB7 := Lib.hid (HBR.out.trans (hb7.mono HBR.out.size))
          clear hb7
          gi_wp2
          have hK7 : w7.heap[w5.heap.size]? = some (.deferred (some [])) := (HB7.out.block w5.heap.size (Array.getElem?_eq_some_iff.1 HKK.out).1).trans HKK.out
          refine ⟨by simp, .inl ⟨_, _, rfl, run_takeDeferred hK7, ?_⟩⟩
          have hbw7 := HBW.out.trans (HB7.out.mono HBW.out.size)
          exact ⟨_, results_tmp rfl _ _ _, rfl, hbw7.trans ((Below.refl _ _).grown (grownBy_putObj' w7 w5.heap.size (.deferred none)) hbw7.size (fun q e => by cases e; omega))⟩
  case stop =>
    rintro D c O xs W hD ⟨_, s, hseg⟩ hi hDe hK
    subst hDe
    rw [HIX.out] at hi
    obtain ⟨rfl, hkk, hOb, hgot, hlen⟩ := hi
    have hxl : xs.length ≤ 1 + F.size := by rw [← HLL.out, ← hseg, List.length_append, List.length_map]; omega
    obtain ⟨m, hm⟩ : ∃ m, xs.length = m := ⟨_, rfl⟩
    have hmm : m = min (1 + F.size) (most + 1) := by omega
    clear hlen hxl
    have hm2 : m ≤ 201 := by have := HGR.out.1; omega
    have hxm : ∀ (j : Nat) (y : Gv), xs[j]? = some y → L[j]? = some y.2.1 := fun j y hy => by
      rw [← hseg, List.getElem?_append_left (by rw [List.length_map]; exact (List.getElem?_eq_some_iff.1 hy).1), List.getElem?_map, hy]
      rfl
    obtain ⟨vt, bv, hown, hvO, hels⟩ := hgot
    obtain ⟨Av, cv, rfl, hk1, hk2⟩ := own_form hown
    rw [hm] at bv hown hels hk1
    have bc := bv.cell
    have mm := HM5.out W hkk
    have HALL := Lib.hid (And.intro bv (And.intro hown (And.intro hels (And.intro hxm (And.intro hkk hm)))))
    have HKK := Lib.hid hK
    have hmn1 : (m : Int) = min ((1 + F.size : Nat) : Int) ((most : Int) + 1) := by omega
    have hml : (0 : Int) ≤ (most : Int) := by omega
    have hmu : (most : Int) ≤ 255 := by omega
    have hm0 : 0 < m := by omega
    obtain ⟨gr, cr, hsl, hgr1, hgr2⟩ := own_shape hown hm0
    injection hsl with hAv _ hcv
    subst hAv; subst hcv
    obtain ⟨lb, loff, lcap, hlv, hlc1, hlc2, hlt, hlC⟩ := HRD.out.2.resolve_left (by rintro ⟨h, _⟩; omega)
    injection hlv with hlA _ hlcc
    subst hlA; subst hlcc
    have hg0W : w3.heap.size < W.heap.size := bv.lt
    have hszW := hkk.size
    have hBW : Below W0.heap.size W0 W := HB05.out.trans ⟨hkk.os, hkk.tape, hkk.output, hkk.size, fun q hq => hkk.keep q (by constructor <;> omega)⟩
    have HEL := Lib.hid (show ∀ j, j < m → ∃ (z o : Nd), ∀ wr, Below W.heap.size W wr → NdAt wr gr (j * 9) z ∧ NdAt wr lb (loff + j * 9) o ∧ Calls Try.prog 18 #[teVal z, teVal o] wr fun e w' => e = .returned (.bool true) ∧ Below wr.heap.size wr w' from fun j hj => by
      obtain ⟨y, hy⟩ : ∃ y, xs[j]? = some y := ⟨xs[j]'(by omega), List.getElem?_eq_getElem (by omega)⟩
      have hym : y ∈ xs := List.mem_of_getElem? hy
      obtain ⟨B', M', _, hfm, _, _⟩ := hels y hym
      obtain ⟨s, hs, hsn, hst⟩ := tmR_at HPRE.out j y.2.1 (hxm j y hy)
      refine ⟨{ y.2.1.1 with tu := y.2.2.1, u := y.2.2.2 }, s.1, fun wr hbr => ⟨NdAt.of_cells fun i u hu => ?_, NdAt.of_cells fun i u hu => ?_, ?_⟩⟩
      · have hi : i < 9 := (List.getElem?_eq_some_iff.1 hu).1
        refine (hbr.cell (p := ⟨gr, j * 9 + i, none⟩) hgr2).trans ?_
        rw [hown.cellAt _ (by omega), flat9g _ _ _ _ hi, hy]
        exact hu
      · have hi : i < 9 := (List.getElem?_eq_some_iff.1 hu).1
        have h1 : w3.cell? ⟨lb, loff + (j * 9 + i), none⟩ = some u := hlC (j * 9 + i) u (by
          rw [preC, flat9 _ _ _ hi]
          have hs' : ((⟨x0, x1, x2, x3, x4, (xu1, xu2, xu3), x6, (xv1, xv2, xv3), x8, x9⟩, F) :: F.pre : List Tm)[j]? = some s := by
            have : (one_ ⟨x0, x1, x2, x3, x4, (xu1, xu2, xu3), x6, (xv1, xv2, xv3), x8, x9⟩ F).pre = ((⟨x0, x1, x2, x3, x4, (xu1, xu2, xu3), x6, (xv1, xv2, xv3), x8, x9⟩, F) :: F.pre : List Tm) := by simp [Te.pre]
            rw [← this]; exact hs
          rw [hs']
          exact hu)
        have h2 : wr.heap[lb]? = w3.heap[lb]? := by
          refine (hbr.block lb (by omega)).trans ((hkk.keep lb (by constructor <;> omega)).trans ?_)
          exact (HFR.out.1.block lb (by have := HW4.out.2.2.1; omega)).trans (HW4.out.2.1.block lb hlt)
        rw [show loff + j * 9 + i = loff + (j * 9 + i) by omega]
        exact (World.cell?_of_block h2).trans h1
      · obtain ⟨ty', g', hty', hg', hTy, hTe⟩ := (hfm.below hbr).now
        have hTs : TmL wr.heap.size wr s := TeL.pre (f := one_ ⟨x0, x1, x2, x3, x4, (xu1, xu2, xu3), x6, (xv1, xv2, xv3), x8, x9⟩ F) ⟨HLX.out wr (hBW.trans (hbr.mono hBW.size)), trivial⟩ s (List.mem_of_getElem? hs)
        have hsz := Te.size_pre (one_ ⟨x0, x1, x2, x3, x4, (xu1, xu2, xu3), x6, (xv1, xv2, xv3), x8, x9⟩ F) s (List.mem_of_getElem? hs)
        have hok := Te.all_pre (f := one_ ⟨x0, x1, x2, x3, x4, (xu1, xu2, xu3), x6, (xv1, xv2, xv3), x8, x9⟩ F) (P := OkN) ⟨HGR.out.2.1, HGR.out.2.2, trivial⟩ s (List.mem_of_getElem? hs)
        have hF2 := HGR.out.1
        have hNN : NdI s.1 { y.2.1.1 with tu := y.2.2.1, u := y.2.2.2, ty := ty' } := ndI_trans hsn ⟨rfl, rfl, rfl, rfl, rfl, hty', rfl, rfl⟩
        have hTT := timg_trans hst hg'
        have tS : s.1.ty.size ≤ 1000000 := Nat.le_trans hok.1.2 (by omega)
        have tA : s.2.all (fun x => x.ty.size ≤ 1000000) := Te.all_mono hok.2 fun x h => Nat.le_trans h.2 (by omega)
        have h := requal_any { y.2.1.1 with tu := y.2.2.1, u := y.2.2.2, ty := ty' } s.1 g' s.2 wr (by rw [hTT.size]; simp only [Te.size] at hsz; omega) (by simp only [Te.size] at hsz; omega) ⟨hTy, hTe⟩ hTs (ndI_tys hNN tS) tS (timg_tys hTT tA) tA
        rw [ndI_two hNN (ndI_refl s.1), timg_two hTT (timg_refl s.2)] at h
        exact h)
    have HBW := Lib.hid (show Below w.heap.size w W from HX0.out.2.2.2.trans (hBW.mono HX0.out.2.2.2.size))
    clear bv hown hels hxm hkk hm hK hseg hvO hlC hBW HALL
    gi_wp2
    all_goals
      gi_loopw [10] (fun t10 wr => ∃ j : Nat, j ≤ m ∧ t10 = .int .i64 j ∧ Below W.heap.size W wr) (fun t10 _ => m - (intOf t10).toNat)
      case atStart => exact ⟨0, Nat.zero_le _, rfl, Below.refl _ _⟩
      case round =>
        obtain ⟨j, hj, rfl, hbr⟩ := hrel
        have bcr : wr.cell? ⟨w3.heap.size, 0, none⟩ = some (.slice (some ⟨gr, 0, none⟩) m cv) := (hbr.cell (p := ⟨w3.heap.size, 0, none⟩) hg0W).trans bc
        by_cases hjm : j < m
        · obtain ⟨z, o, hzo⟩ := HEL.out j hjm
          obtain ⟨nz, no, _⟩ := hzo wr hbr
          obtain ⟨_, _, hcl⟩ := hzo wr.drew (hbr.trans (Below.refl _ wr).drew)
          obtain ⟨z0, z1, z2, z3, z4, ⟨zu1, zu2, zu3⟩, z6, ⟨zv1, zv2, zv3⟩, z8, z9⟩ := z
          obtain ⟨o0, o1, o2, o3, o4, ⟨ou1, ou2, ou3⟩, o6, ⟨ov1, ov2, ov3⟩, o8, o9⟩ := o
          obtain ⟨a0, a1, a2, a3, a4, a5, a6, a7, a8⟩ := nz
          obtain ⟨d0, d1, d2, d3, d4, d5, d6, d7, d8⟩ := no
          dsimp only [teVal, slv] at a5 a6 d5 d6 hcl
          have HCL := Lib.hid hcl
          have HBR := Lib.hid hbr
          have hjN : j < 1 + F.size := by omega
          have hmix : Try.prog.follows Departure.mixedOrders = true := by kernel_rfl
          clear hcl hzo hbr
          gi_wp2
          refine wpIn_noPanic ?_
          gi_region_with_o (refine ⟨trivial, ?_⟩; gi_at_call 18; refine (callsIn_wide.2 HCL.out).mono ?_; rintro e w6 ⟨rfl, hb6⟩)
          all_goals
            have HB6 := Lib.hid (HBR.out.trans ((Below.refl _ wr).drew.trans hb6 |>.mono HBR.out.size))
            clear hb6
            dsimp only [noPanic]
            gi_wp2
            go_roundw
            case rel => exact ⟨j + 1, by omega, by go_num, HB6.out⟩
            case measure => simp [intOf]; omega
        · obtain rfl : j = m := by omega
          have HBR := Lib.hid hbr
          clear hbr
          gi_wp2
          refine ⟨trivial, ?_⟩
          refine (callsIn_wide.2 (HA.out _)).mono ?_
          rintro e w7 ⟨rfl, hb7⟩
          have HB7 := Lib.hid (HBR.out.trans (hb7.mono HBR.out.size))
          clear hb7
          gi_wp2
          have hK7 : w7.heap[w5.heap.size]? = some (.deferred (some [])) := (HB7.out.block w5.heap.size (Array.getElem?_eq_some_iff.1 HKK.out).1).trans HKK.out
          refine ⟨by simp, .inl ⟨_, _, rfl, run_takeDeferred hK7, ?_⟩⟩
          have hbw7 := HBW.out.trans (HB7.out.mono HBW.out.size)
          exact ⟨_, results_tmp rfl _ _ _, rfl, hbw7.trans ((Below.refl _ _).grown (grownBy_putObj' w7 w5.heap.size (.deferred none)) hbw7.size (fun q e => by cases e; omega))⟩
end Go.Proofs.Ytglmhdlkhnlkiaa
