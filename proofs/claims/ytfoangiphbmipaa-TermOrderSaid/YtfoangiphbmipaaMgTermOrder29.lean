/- Texts of one proof, one behind the other. -/
import Derived.Test.YtfoangiphbmipaaMgTermOrder28
import Derived.Test.YtfoangiphbmipaaMgTermOrder25
import Derived.Test.YtfoangiphbmipaaMgTermOrder22
/- TermStops. -/
namespace Go.Proofs.Ytfoangiphbmipaa
open Go.RowKit Go.Shelf
attribute [local go_sem] Oper.semAt_some
attribute [local go_sem ↓] builtin_app

theorem eimg_trans {f g h : Fo} (a : Img idn f g) (b : Img idn g h) : Img idn f h := by
  induction f generalizing g h with
  | nil => cases g <;> cases h <;> simp_all [Img]
  | cons k n u ps r ih1 ih2 =>
    cases g with
    | nil => simp [Img] at a
    | cons k' n' u' ps' r' =>
      cases h with
      | nil => simp [Img] at b
      | cons k2 n2 u2 ps2 r2 =>
        simp only [Img, nm_id] at a b ⊢
        exact ⟨b.1.trans a.1, b.2.1.trans a.2.1, ih1 a.2.2.1 b.2.2.1, ih2 a.2.2.2 b.2.2.2⟩
theorem ndI_trans {x y z : Nd} (a : NdI x y) (b : NdI y z) : NdI x z :=
  ⟨b.1.trans a.1, b.2.1.trans a.2.1, b.2.2.1.trans a.2.2.1, b.2.2.2.1.trans a.2.2.2.1, b.2.2.2.2.1.trans a.2.2.2.2.1, eimg_trans a.2.2.2.2.2.1 b.2.2.2.2.2.1, b.2.2.2.2.2.2.1.trans a.2.2.2.2.2.2.1, b.2.2.2.2.2.2.2.trans a.2.2.2.2.2.2.2⟩
theorem timg_trans {f g h : Te} (a : TImg f g) (b : TImg g h) : TImg f h := by
  induction f generalizing g h with
  | nil => cases g <;> cases h <;> simp_all [TImg]
  | cons x ps r ih1 ih2 =>
    cases g with
    | nil => simp [TImg] at a
    | cons y ps' r' =>
      cases h with
      | nil => simp [TImg] at b
      | cons z ps2 r2 => exact ⟨ndI_trans a.1 b.1, ih1 a.2.1 b.2.1, ih2 a.2.2 b.2.2⟩
/-- Images stand at the same places. -/
def tmR : List Tm → List Tm → Prop
  | [], [] => True
  | s :: a, t :: b => (NdI s.1 t.1 ∧ TImg s.2 t.2) ∧ tmR a b
  | _, _ => False
theorem tmR_app {a b c d : List Tm} (h : tmR a b) (k : tmR c d) : tmR (a ++ c) (b ++ d) := by
  induction a generalizing b with
  | nil => cases b with
    | nil => exact k
    | cons => simp [tmR] at h
  | cons s a ih => cases b with
    | nil => simp [tmR] at h
    | cons t b => exact ⟨h.1, ih h.2⟩
theorem tmR_at {a b : List Tm} (h : tmR a b) (i : Nat) (t : Tm) (ht : b[i]? = some t) : ∃ s, a[i]? = some s ∧ NdI s.1 t.1 ∧ TImg s.2 t.2 := by
  induction a generalizing b i with
  | nil => cases b with
    | nil => simp at ht
    | cons => simp [tmR] at h
  | cons s a ih => cases b with
    | nil => simp [tmR] at h
    | cons t' b => cases i with
      | zero =>
        simp at ht
        subst ht
        exact ⟨s, rfl, h.1⟩
      | succ i =>
        simp at ht
        obtain ⟨s', h1, h2⟩ := ih h.2 i ht
        exact ⟨s', by simpa using h1, h2⟩
theorem timg_pre {f g : Te} (h : TImg f g) : tmR f.pre g.pre := by
  induction f generalizing g with
  | nil => cases g with
    | nil => trivial
    | cons => simp [TImg] at h
  | cons x ps r ih1 ih2 =>
    cases g with
    | nil => simp [TImg] at h
    | cons y ps' r' => exact ⟨⟨h.1, h.2.1⟩, tmR_app (ih1 h.2.1) (ih2 h.2.2)⟩
theorem timg_tyb {f g : Te} (h : TImg f g) (k : f.all OkN) : g.tyb := by
  induction f generalizing g with
  | nil => cases g <;> simp_all [TImg, Te.tyb]
  | cons x ps r ih1 ih2 =>
    cases g with
    | nil => simp [TImg] at h
    | cons y ps' r' => exact ⟨by have := ndI_tys h.1 k.1.2; omega, ih1 h.2.1 k.2.1, ih2 h.2.2 k.2.2⟩
/-- What has been got so far: a row of copies, which hang on nothing of the iterator's. -/
def Got (base g0 : Nat) (O : Nat → Prop) (pre : List Gv) (W : World) : Prop :=
  ∃ vt, Boxed W g0 25 vt ∧ W.ownsRow base 29 9 vt pre.length (pre.flatMap fun x => ndC { x.2.1.1 with tu := x.2.2.1, u := x.2.2.2 }) ∧ (∀ g, vt.ownBlock = some g → ¬ O g) ∧
    ∀ x ∈ pre, ∃ B M, base ≤ B ∧ FreshM B M W x.2.1.1 x.2.1.2 x.2.2.1 x.2.2.2 ∧ (∀ b, B ≤ b → b < M → ¬ O b) ∧ (∀ g, vt.ownBlock = some g → g < B ∨ M ≤ g)
theorem Got.step {base g0 : Nat} {O O' : Nat → Prop} {pre : List Gv} {W W' : World} (h : Got base g0 O pre W) (st : Stp O W W') (hO : ∀ k, k < W.heap.size → O' k → O k) (hg : ¬ O g0) : Got base g0 O' pre W' := by
  obtain ⟨vt, h1, h2, h3, h4⟩ := h
  have hl : ∀ g, vt.ownBlock = some g → g < W.heap.size := fun g hg => (h2.lt g hg).2
  refine ⟨vt, (st.block _ h1.lt hg).trans h1, row_same h2 fun g hv => st.block g (hl g hv) (h3 g hv), fun g hv ho => h3 g hv (hO g (hl g hv) ho), fun x hx => ?_⟩
  obtain ⟨B, M, h5, h6, h7, h8⟩ := h4 x hx
  exact ⟨B, M, h5, h6.to (Nat.le_trans h6.1 st.size) fun b o hB hM ho _ => (st.block b (Nat.lt_of_lt_of_le hM h6.1) (h7 b hB hM)).trans ho, fun b hB hM ho => h7 b hB hM (hO b (Nat.lt_of_lt_of_le hM h6.1) ho), h8⟩
/-- The range's own two blocks turn. -/
theorem Got.rec {base g0 r : Nat} {O : Nat → Prop} {pre : List Gv} {W W' : World} (h : Got base g0 O pre W) (st : Stp (fun k => k = r ∨ k = r + 1) W W') (hr : r + 2 ≤ base) (hg : g0 < r) : Got base g0 O pre W' := by
  obtain ⟨vt, h1, h2, h3, h4⟩ := h
  refine ⟨vt, (st.block _ h1.lt (by omega)).trans h1, row_same h2 fun g hv => st.block g (h2.lt g hv).2 (by have := (h2.lt g hv).1; omega), h3, fun x hx => ?_⟩
  obtain ⟨B, M, h5, h6, h7, h8⟩ := h4 x hx
  exact ⟨B, M, h5, h6.to (Nat.le_trans h6.1 st.size) fun b o hB hM ho _ => (st.block b (Nat.lt_of_lt_of_le hM h6.1) (by omega)).trans ho, h7, h8⟩
theorem Boxed.same {W : World} {b : Nat} {u : TypeId} {v v' : Value} (h : Boxed W b u v) (k : Boxed W b u v') : v = v' := by
  unfold Boxed at h k
  rw [h] at k
  injection k with k
  injection k with k
  have := congrArg (fun a : Array Value => a.toList) k
  simpa using this
/-- A post that bars panics. -/
def noPanic (Q : Exit → Act → World → Prop) : Exit → Act → World → Prop
  | .panic _, _, _ => False
  | .normal, a, w => Q .normal a w
  | .ret, a, w => Q .ret a w
  | .exit i, a, w => Q (.exit i) a w
  | .goto i, a, w => Q (.goto i) a w
  | .outgrown, a, w => Q .outgrown a w
theorem wpIn_noPanic {F : Fence} {n : Nat} {P : Program} {c : Code} {Q : Exit → Act → World → Prop} {a : Act} {w : World} (h : c.wpIn F n P (noPanic Q) a w) : c.wpIn F n P Q a w :=
  wpIn_mono h fun e a w h => by cases e <;> first | exact h | exact h.elim
theorem flat9g {α : Type} (L : List α) (f : α → Nd) (i j : Nat) (hj : j < 9) : (L.flatMap fun t => ndC (f t))[i * 9 + j]? = (L[i]?).bind fun t => (ndC (f t))[j]? := by
  induction L generalizing i with
  | nil => simp
  | cons t r ih =>
    rw [List.flatMap_cons]
    cases i with
    | zero => rw [Nat.zero_mul, Nat.zero_add, List.getElem?_append_left (by rw [ndC_len]; exact hj)]; rfl
    | succ i =>
      rw [List.getElem?_append_right (by rw [ndC_len]; omega), ndC_len, show (i + 1) * 9 + j - 9 = i * 9 + j by omega, ih i]
      rfl
/-- One more has been got. -/
theorem got_push {base g0 : Nat} {O K : Nat → Prop} {pre : List Gv} {x : Gv} {w5 W6 W' : World} {Av : Option Addr} {cv g2 cp2 k B M : Nat}
    (hk : pre.length = k) (hg0 : g0 < base) (hOb : ∀ j, O j → base ≤ j) (hOW : ∀ j, O j → j < W6.heap.size) (hKb : ∀ j, K j → j < base ∧ j ≠ g0)
    (hkk : Kk (fun j => j < base ∧ j ≠ g0) w5 W6) (hb6 : base + 2 ≤ W6.heap.size)
    (hown : W6.ownsRow (base + 2) 29 9 (.slice Av k cv) k (pre.flatMap fun x => ndC { x.2.1.1 with tu := x.2.2.1, u := x.2.2.2 }))
    (hvO : ∀ g, (Value.slice Av k cv).ownBlock = some g → ¬ O g)
    (hels : ∀ x ∈ pre, ∃ B M, base + 2 ≤ B ∧ FreshM B M W6 x.2.1.1 x.2.1.2 x.2.2.1 x.2.2.2 ∧ (∀ b, B ≤ b → b < M → ¬ O b) ∧ (∀ g, (Value.slice Av k cv).ownBlock = some g → g < B ∨ M ≤ g))
    (hB2 : base + 2 ≤ B) (hfm : FreshM B M W6 x.2.1.1 x.2.1.2 x.2.2.1 x.2.2.2) (hbO : ∀ b, B ≤ b → b < M → ¬ O b) (hvB : ∀ g, (Value.slice Av k cv).ownBlock = some g → g < B)
    (hat : (Value.slice (some ⟨g2, 0, none⟩) (k + 1) cp2).ownBlock = (Value.slice Av k cv).ownBlock ∨ W6.heap.size ≤ g2)
    (hown' : W'.ownsRow (base + 2) 29 9 (.slice (some ⟨g2, 0, none⟩) (k + 1) cp2) (k + 1) ((pre.flatMap fun x => ndC { x.2.1.1 with tu := x.2.2.1, u := x.2.2.2 }) ++ ndC { x.2.1.1 with tu := x.2.2.1, u := x.2.2.2 }))
    (hbox' : Boxed W' g0 25 (.slice (some ⟨g2, 0, none⟩) (k + 1) cp2))
    (hos : W'.os = W6.os) (htp : W'.tape = W6.tape) (hout : W'.output = W6.output) (hsz : W6.heap.size ≤ W'.heap.size)
    (hWW : ∀ j, j < W6.heap.size → some j ≠ (Value.slice Av k cv).ownBlock → j ≠ g0 → W'.heap[j]? = W6.heap[j]?) :
    Rec base W6 W' ∧ Kx O K W6 W' ∧ Kk (fun j => j < base ∧ j ≠ g0) w5 W' ∧ Got (base + 2) g0 O (pre ++ [x]) W' := by
  have hrow : ∀ j, (Value.slice Av k cv).ownBlock = some j → base + 2 ≤ j := fun j h => (hown.lt j h).1
  have far : ∀ j, j < base + 2 → j ≠ g0 → W'.heap[j]? = W6.heap[j]? := fun j h1 h2 => hWW j (by omega) (fun e => by have := hrow j e.symm; omega) h2
  have hnew : ∀ g, (Value.slice (some ⟨g2, 0, none⟩) (k + 1) cp2).ownBlock = some g → (Value.slice Av k cv).ownBlock = some g ∨ W6.heap.size ≤ g := by
    intro g hg
    rcases hat with h | h
    · exact .inl (h ▸ hg)
    · obtain rfl : g2 = g := by simpa [Value.ownBlock] using hg
      exact .inr h
  have kk : Kk (fun j => j < base ∧ j ≠ g0) W6 W' := ⟨hos, htp, hout, hsz, fun j hj => far j (by omega) hj.2⟩
  have keep : ∀ {B M : Nat} {y : Nd} {p : Te} {tu u : Sl}, base + 2 ≤ B → FreshM B M W6 y p tu u → (∀ g, (Value.slice Av k cv).ownBlock = some g → g < B ∨ M ≤ g) → FreshM B M W' y p tu u := fun h1 h2 h3 => h2.to (Nat.le_trans h2.1 hsz) fun b o hB hM ho _ => (hWW b (Nat.lt_of_lt_of_le hM h2.1) (fun e => by have := h3 b e.symm; omega) (by omega)).trans ho
  refine ⟨fun j hj => far j (by omega) (by omega), ⟨⟨hos, htp, hout, hsz, fun j hj => far j (by have := hKb j hj; omega) (hKb j hj).2⟩, fun j hj => hWW j (hOW j hj) (fun e => hvO j e.symm hj) (by have := hOb j hj; omega)⟩, hkk.trans kk, .slice (some ⟨g2, 0, none⟩) (k + 1) cp2, hbox', ?_, ?_, ?_⟩
  · have e : (pre ++ [x]).length = k + 1 := by simp [hk]
    have e2 : ((pre ++ [x]).flatMap fun x => ndC { x.2.1.1 with tu := x.2.2.1, u := x.2.2.2 }) = (pre.flatMap fun x => ndC { x.2.1.1 with tu := x.2.2.1, u := x.2.2.2 }) ++ ndC { x.2.1.1 with tu := x.2.2.1, u := x.2.2.2 } := by simp
    rw [e, e2]; exact hown'
  · intro g hg hO
    rcases hnew g hg with h | h
    · exact hvO g h hO
    · have := hOW g hO; omega
  · intro y hy
    rcases List.mem_append.1 hy with hy | hy
    · obtain ⟨B', M', h1, h2, h3, h4⟩ := hels y hy
      refine ⟨B', M', h1, keep h1 h2 h4, h3, fun g hg => ?_⟩
      rcases hnew g hg with h | h
      · exact h4 g h
      · have := h2.1; omega
    · obtain rfl : y = x := by simpa using hy
      refine ⟨B, M, hB2, keep hB2 hfm fun g hg => .inl (hvB g hg), hbO, fun g hg => ?_⟩
      rcases hnew g hg with h | h
      · exact .inl (hvB g h)
      · have := hfm.1; omega
end Go.Proofs.Ytfoangiphbmipaa
