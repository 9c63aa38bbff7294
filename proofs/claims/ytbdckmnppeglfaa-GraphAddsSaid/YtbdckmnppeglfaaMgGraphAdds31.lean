/- Texts of one proof, one behind the other. -/
import Derived.Test.YtbdckmnppeglfaaMgGraphAdds29
import Derived.Test.YtbdckmnppeglfaaMgGraphAdds30
/- Nodes and the types that they stand for. -/
namespace Go.Proofs.Ytbdckmnppeglfaa
/-- A node stands for that type. -/
def NEq (y : Rn) (q : Int × Int × Sl × Fo) : Prop := y.1 = q.1 ∧ y.2.1 = q.2.1 ∧ y.2.2.2.1.pure = q.2.2.2.pure
/-- Each node's parts stand for its type's parts, and come ahead. -/
def RI (R : List Rn) : Prop := ∀ (i : Nat) (x : Rn), R[i]? = some x → x.2.2.2.2.length = x.2.2.2.1.len ∧ ∀ j, j < x.2.2.2.1.len → ∃ (p : Nat) (y : Rn), x.2.2.2.2[j]? = some p ∧ p < i ∧ R[p]? = some y ∧ NEq y (x.2.2.2.1.at_ j)
/-- Variables have no parts. -/
def NV (R : List Rn) : Prop := ∀ x ∈ R, x.1 = 1 → x.2.2.2.1 = .nil
theorem get_app {α : Type} {l : List α} {i : Nat} {x : α} (h : l[i]? = some x) (e : List α) : (l ++ e)[i]? = some x := by
  rw [List.getElem?_append_left (List.getElem?_eq_some_iff.1 h).1]; exact h
theorem RI.snoc {R : List Rn} (h : RI R) (k n : Int) (u : Sl) (ps : Fo) (P : List Nat) (hl : P.length = ps.len) (hP : ∀ j, j < ps.len → ∃ p y, P[j]? = some p ∧ R[p]? = some y ∧ NEq y (ps.at_ j)) : RI (R ++ [(k, n, u, ps, P)]) := by
  intro i x hx
  rcases Nat.lt_or_ge i R.length with hi | hi
  · rw [List.getElem?_append_left hi] at hx
    obtain ⟨h1, h2⟩ := h i x hx
    refine ⟨h1, fun j hj => ?_⟩
    obtain ⟨p, y, a1, a2, a3, a4⟩ := h2 j hj
    exact ⟨p, y, a1, a2, get_app a3 _, a4⟩
  · have hi2 : i = R.length := by
      have := (List.getElem?_eq_some_iff.1 hx).1
      rw [List.length_append, List.length_singleton] at this
      omega
    subst hi2
    rw [List.getElem?_append_right (Nat.le_refl _), Nat.sub_self] at hx
    obtain rfl : (k, n, u, ps, P) = x := by simpa using hx
    refine ⟨hl, fun j hj => ?_⟩
    obtain ⟨p, y, a1, a2, a3⟩ := hP j hj
    exact ⟨p, y, a1, (List.getElem?_eq_some_iff.1 a2).1, get_app a2 _, a3⟩
structure RadOk (R : List Rn) (F : Fo) : Prop where
  ri : RI (radd R F).1
  nv : NV (radd R F).1
  ext : ∃ E, (radd R F).1 = R ++ E
  parts : ∀ j, j < F.len → ∃ p y, (radd R F).2[j]? = some p ∧ (radd R F).1[p]? = some y ∧ NEq y (F.at_ j)
theorem rnode_ok (R : List Rn) (k n : Int) (u : Sl) (ps : Fo) (P : List Nat) (h : RI R) (hv : NV R) (hk : k = 1 → ps = .nil) (hl : P.length = ps.len) (hP : ∀ j, j < ps.len → ∃ p y, P[j]? = some p ∧ R[p]? = some y ∧ NEq y (ps.at_ j)) :
    RI (rnode R k n u ps P).1 ∧ NV (rnode R k n u ps P).1 ∧ (∃ E, (rnode R k n u ps P).1 = R ++ E) ∧ ∃ y, (rnode R k n u ps P).1[(rnode R k n u ps P).2]? = some y ∧ NEq y (k, n, u, ps) := by
  unfold rnode
  split
  · rename_i i hi
    split at hi
    · rename_i h1
      obtain ⟨x, hx, hx1, hx2⟩ := gvar_at hi
      rw [List.getElem?_map] at hx
      obtain ⟨y, hy, rfl⟩ := Option.map_eq_some_iff.1 hx
      have hn := hv y (List.mem_of_getElem? hy) hx1
      exact ⟨h, hv, ⟨[], by simp⟩, y, hy, by rw [h1]; exact hx1, hx2, by rw [hn, hk h1]⟩
    · cases hi
  · refine ⟨h.snoc k n u ps P hl hP, fun x hx h1 => ?_, ⟨_, rfl⟩, (k, n, u, ps, P), by simp, rfl, rfl, rfl⟩
    rcases List.mem_append.1 hx with hx | hx
    · exact hv x hx h1
    · obtain rfl : x = (k, n, u, ps, P) := by simpa using hx
      exact hk h1
theorem radd_ok (F : Fo) : ∀ R, RI R → NV R → Vok F → RadOk R F := by
  induction F with
  | nil => intro R h hv _; exact ⟨by rw [radd_nil]; exact h, by rw [radd_nil]; exact hv, ⟨[], by simp [radd_nil]⟩, fun j hj => by simp [Fo.len] at hj⟩
  | cons k n u ps r i1 i2 =>
    intro R h hv hk
    obtain ⟨k1, k2, k3⟩ := hk
    have a := i1 R h hv k2
    obtain ⟨b1, b2, ⟨E2, b3⟩, y, b4, b5⟩ := rnode_ok (radd R ps).1 k n u ps (radd R ps).2 a.ri a.nv k1 (radd_len ps R).2 a.parts
    rw [← radd1_eq] at b1 b2 b3 b4
    have c := i2 _ b1 b2 k3
    obtain ⟨E1, e1⟩ := a.ext
    obtain ⟨E3, e3⟩ := c.ext
    refine ⟨by rw [radd_cons]; exact c.ri, by rw [radd_cons]; exact c.nv, ⟨E1 ++ (E2 ++ E3), ?_⟩, fun j hj => ?_⟩
    · rw [radd_cons]
      show (radd (radd1 R k n u ps).1 r).1 = _
      rw [e3, b3, e1]
      simp only [List.append_assoc]
    · rw [radd_cons]
      cases j with
      | zero => exact ⟨_, y, rfl, by rw [e3]; exact get_app b4 _, b5⟩
      | succ j =>
        obtain ⟨p, z, c1, c2, c3⟩ := c.parts j (by simp only [Fo.len] at hj; omega)
        exact ⟨p, z, by simpa using c1, c2, c3⟩
theorem radd1_ok (R : List Rn) (k n : Int) (u : Sl) (ps : Fo) (h : RI R) (hv : NV R) (hk : Vok (Fo.cons k n u ps .nil)) : RI (radd1 R k n u ps).1 ∧ NV (radd1 R k n u ps).1 ∧ (∃ E, (radd1 R k n u ps).1 = R ++ E) ∧ ∃ y, (radd1 R k n u ps).1[(radd1 R k n u ps).2]? = some y ∧ NEq y (k, n, u, ps) := by
  have a := radd_ok ps R h hv hk.2.1
  obtain ⟨b1, b2, ⟨E2, b3⟩, b4⟩ := rnode_ok (radd R ps).1 k n u ps (radd R ps).2 a.ri a.nv hk.1 (radd_len ps R).2 a.parts
  rw [← radd1_eq] at b1 b2 b3 b4
  obtain ⟨E1, e1⟩ := a.ext
  exact ⟨b1, b2, ⟨E1 ++ E2, by rw [b3, e1, List.append_assoc]⟩, b4⟩
/-- What all that were added leave. -/
structure BOk (s : List Rn × List Nat) : Prop where
  ri : RI s.1
  nv : NV s.1
  gi : GI (s.1.map rG)
theorem BOk.nil (A : List Nat) : BOk ([], A) := ⟨fun i x h => by simp at h, fun x h => by simp at h, fun x h => by simp at h⟩
theorem BOk.one {s : List Rn × List Nat} (h : BOk s) {k n : Int} {u : Sl} {ps : Fo} (hl : LenOk (Fo.cons k n u ps .nil)) : BOk (bOne s k n u ps) := by
  have hg := bOne_GI s k n u ps h.gi hl
  unfold bOne at hg ⊢
  split
  · rename_i ha
    rw [if_pos ha] at hg
    obtain ⟨a, b, _⟩ := radd1_ok s.1 k n u ps h.ri h.nv (vok_of ha hl)
    exact ⟨a, b, hg⟩
  · exact h
theorem bAll_ok (F : Fo) : ∀ s, BOk s → LenOk F → BOk (bAll s F) := by
  induction F with
  | nil => intro s h _; exact h
  | cons k n u ps r _ ih => intro s h hl; exact ih _ (h.one ⟨hl.1, hl.2.1, trivial⟩) hl.2.2
theorem bOne_ext {s : List Rn × List Nat} (h : BOk s) {k n : Int} {u : Sl} {ps : Fo} (hl : LenOk (Fo.cons k n u ps .nil)) : (∃ E, (bOne s k n u ps).1 = s.1 ++ E) ∧ ∃ E, (bOne s k n u ps).2 = s.2 ++ E := by
  unfold bOne
  split
  · rename_i ha
    obtain ⟨_, _, c, _⟩ := radd1_ok s.1 k n u ps h.ri h.nv (vok_of ha hl)
    exact ⟨c, ⟨_, rfl⟩⟩
  · exact ⟨⟨[], by simp⟩, ⟨[], by simp⟩⟩
theorem bAll_ext (F : Fo) : ∀ s, BOk s → LenOk F → (∃ E, (bAll s F).1 = s.1 ++ E) ∧ ∃ E, (bAll s F).2 = s.2 ++ E := by
  induction F with
  | nil => intro s _ _; exact ⟨⟨[], by simp [bAll]⟩, ⟨[], by simp [bAll]⟩⟩
  | cons k n u ps r _ ih =>
    intro s h hl
    have hc : LenOk (Fo.cons k n u ps .nil) := ⟨hl.1, hl.2.1, trivial⟩
    obtain ⟨⟨E1, e1⟩, ⟨E2, e2⟩⟩ := bOne_ext h hc
    obtain ⟨⟨E3, e3⟩, ⟨E4, e4⟩⟩ := ih _ (h.one hc) hl.2.2
    exact ⟨⟨E1 ++ E3, by simp only [bAll]; rw [e3, e1, List.append_assoc]⟩, ⟨E2 ++ E4, by simp only [bAll]; rw [e4, e2, List.append_assoc]⟩⟩
theorem bAll_take (F : Fo) (j : Nat) (hj : j ≤ F.len) (s : List Rn × List Nat) : bAll s F = bAll (bAll s (F.take j)) (F.drop j) := by
  induction F generalizing j s with
  | nil => cases j <;> rfl
  | cons k n u ps r _ ih =>
    cases j with
    | zero => rw [Fo.take_zero, Fo.drop_zero]; rfl
    | succ j => exact ih j (by simp only [Fo.len] at hj; omega) _
theorem LenOk.drop {F : Fo} (h : LenOk F) (j : Nat) : LenOk (F.drop j) := by
  induction F generalizing j with
  | nil => cases j <;> trivial
  | cons k n u ps r _ ih =>
    cases j with
    | zero => rw [Fo.drop_zero]; exact h
    | succ j => exact ih h.2.2 j
theorem LenOk.take {F : Fo} (h : LenOk F) (j : Nat) : LenOk (F.take j) := by
  induction F generalizing j with
  | nil => cases j <;> trivial
  | cons k n u ps r _ ih =>
    cases j with
    | zero => rw [Fo.take_zero]; trivial
    | succ j => exact ⟨h.1, h.2.1, ih h.2.2 j⟩
/-- A right type's node, whatever comes behind. -/
theorem bAll_at (F : Fo) (hl : LenOk F) (s : List Rn × List Nat) (hs : BOk s) (j : Nat) (hj : j < F.len) (hlc : LenOk (Fo.cons (F.at_ j).1 (F.at_ j).2.1 (F.at_ j).2.2.1 (F.at_ j).2.2.2 .nil)) (ha : allAlone (Fo.cons (F.at_ j).1 (F.at_ j).2.1 (F.at_ j).2.2.1 (F.at_ j).2.2.2 .nil).pre = true) :
    ∃ p y, (bAll s F).2[(bAll s (F.take j)).2.length]? = some p ∧ (bAll s F).1[p]? = some y ∧ NEq y (F.at_ j) ∧ (bAll s (F.take (j + 1))).2.length = (bAll s (F.take j)).2.length + 1 := by
  have h0 := bAll_ok (F.take j) s hs (hl.take j)
  have h1 := bAll_ok (F.take (j + 1)) s hs (hl.take (j + 1))
  obtain ⟨⟨E1, e1⟩, ⟨E2, e2⟩⟩ := bAll_ext (F.drop (j + 1)) _ h1 (hl.drop (j + 1))
  rw [← bAll_take F (j + 1) hj s] at e1 e2
  have hst := bAll_step F j hj s
  rw [bOne, if_pos ha] at hst
  obtain ⟨_, _, _, y, hy, hn⟩ := radd1_ok (bAll s (F.take j)).1 _ _ _ _ h0.ri h0.nv (vok_of ha hlc)
  refine ⟨(radd1 (bAll s (F.take j)).1 (F.at_ j).1 (F.at_ j).2.1 (F.at_ j).2.2.1 (F.at_ j).2.2.2).2, y, ?_, ?_, hn, by rw [hst]; simp⟩
  · rw [e2, hst]
    exact get_app (by simp) _
  · rw [e1, hst]
    exact get_app hy _
theorem bAll_not (F : Fo) (s : List Rn × List Nat) (j : Nat) (hj : j < F.len) (ha : allAlone (Fo.cons (F.at_ j).1 (F.at_ j).2.1 (F.at_ j).2.2.1 (F.at_ j).2.2.2 .nil).pre = false) : (bAll s (F.take (j + 1))).2.length = (bAll s (F.take j)).2.length := by
  rw [bAll_step F j hj, bOne, if_neg (by rw [ha]; simp)]
end Go.Proofs.Ytbdckmnppeglfaa
/- graph's lay: what stands between two rounds. -/
namespace Go.Proofs.Ytbdckmnppeglfaa
open Go.RowKit Go.Shelf
set_option maxRecDepth 100000
theorem pure_at {f g : Fo} (h : f.pure = g.pure) (j : Nat) : (f.at_ j).1 = (g.at_ j).1 ∧ (f.at_ j).2.1 = (g.at_ j).2.1 ∧ (f.at_ j).2.2.2.pure = (g.at_ j).2.2.2.pure := by
  induction f generalizing g j with
  | nil => cases g with
    | nil => exact ⟨rfl, rfl, rfl⟩
    | cons => simp [Fo.pure] at h
  | cons k n u ps r _ ih => cases g with
    | nil => simp [Fo.pure] at h
    | cons k' n' u' ps' r' =>
      simp only [Fo.pure, Fo.cons.injEq] at h
      obtain ⟨h1, h2, _, h4, h5⟩ := h
      cases j with
      | zero => exact ⟨h1, h2, h4⟩
      | succ j => exact ih h5 j
/-- A place that waits: a hole, and the node whose type comes there. -/
abbrev Pl := Hole × Nat
def plC (x : Pl) : List Value := [.pointer (some ⟨x.1.b, x.1.off, none⟩), .int .i64 (x.2 : Nat)]
theorem plC_len (L : List Pl) : (L.flatMap plC).length = L.length * 2 := by
  induction L with
  | nil => rfl
  | cons x L ih => simp only [List.flatMap_cons, List.length_append, ih, List.length_cons, plC, List.length_nil]; omega
theorem plC_last (L : List Pl) (x : Pl) : ((L ++ [x]).flatMap plC)[L.length * 2]? = some (.pointer (some ⟨x.1.b, x.1.off, none⟩)) ∧ ((L ++ [x]).flatMap plC)[L.length * 2 + 1]? = some (.int .i64 (x.2 : Nat)) := by
  rw [List.flatMap_append]
  constructor
  · rw [List.getElem?_append_right (by rw [plC_len]; omega), plC_len, Nat.sub_self]; rfl
  · rw [List.getElem?_append_right (by rw [plC_len]; omega), plC_len, Nat.add_sub_cancel_left]; rfl
theorem plC_one (L : List Pl) : ∀ u ∈ L.flatMap plC, u.oneCell' = true := by
  intro u hu
  obtain ⟨x, _, hx⟩ := List.mem_flatMap.1 hu
  simp only [plC, List.mem_cons, List.not_mem_nil, or_false] at hx
  rcases hx with rfl | rfl <;> rfl
theorem placeInfo : (Try.prog.info? 131).map (fun i => (i.zero, i.size, i.bytes)) = some (some (.agg #[.pointer none, .int .i64 0]), 2, 16) := by kernel_rfl
/-- A place put behind the others. -/
theorem app_pl (W : World) (base : Nat) (v : Value) (L : List Pl) (own : W.ownsRow base 131 2 v L.length (L.flatMap plC)) (x : Pl) (hl : L.length ≤ 10000000) (hbase : base ≤ W.heap.size) :
    ∃ (v' : Value) (W' : World), (app_ #[132, 132] 132 #[v, .slice (some ⟨W.heap.size, 0, none⟩) 1 1]).run Try.prog (W.alloc (.cells #[.pointer (some ⟨x.1.b, x.1.off, none⟩), .int .i64 (x.2 : Nat)] 131)) = .ok v' W' ∧ W'.ownsRow base 131 2 v' (L ++ [x]).length ((L ++ [x]).flatMap plC) ∧ Below base W W' ∧ KeepT 38 W W' := by
  obtain ⟨i0, hi0, hz0, hz1, hz2⟩ := info_parts placeInfo
  have hb0 : Below base W (W.alloc (.cells #[.pointer (some ⟨x.1.b, x.1.off, none⟩), .int .i64 (x.2 : Nat)] 131)) := (Below.refl _ _).alloc hbase _
  obtain ⟨v1, w1, hrun, hown, hg, hat⟩ := run_append_rd (P := Try.prog) (W.alloc (.cells #[.pointer (some ⟨x.1.b, x.1.off, none⟩), .int .i64 (x.2 : Nat)] 131)) base 132 132 131 i0 _ 2 16 Try.underlying132 hi0 hz0 hz1 hz2 rfl (by omega) v _ _ (own.alloc _) _ 1 (plC x) (rd_new W [.pointer (some ⟨x.1.b, x.1.off, none⟩), .int .i64 (x.2 : Nat)] _ 2 1 rfl (by unfold maxLen; omega)) (by have := plC_one [x]; simpa using this) (by unfold maxLen; omega) (by omega) (Nat.le_trans hbase hb0.size)
  refine ⟨v1, w1, hrun, ?_, hb0.grown hg (Nat.le_trans hbase hb0.size) (fun k e => (own.lt k e).1), ((KeepT.refl _ W).alloc _).trans (KeepT.grown hg (row_not (own.alloc _) (by decide)))⟩
  rw [List.length_append, List.flatMap_append]
  simpa using hown
/-- A place that may be written to. -/
def PlAt (R : List Rn) (rt B : Nat) (w : World) (x : Pl) : Prop :=
  B ≤ x.1.b ∧ isT 38 rt w x.1.b ∧ (∃ y0 y1 y2, w.cell? ⟨x.1.b, x.1.off, none⟩ = some y0 ∧ w.cell? ⟨x.1.b, x.1.off + 1, none⟩ = some y1 ∧ w.cell? ⟨x.1.b, x.1.off + 2, none⟩ = some y2) ∧ ∃ y, R[x.2]? = some y ∧ NEq y (x.1.k, x.1.n, x.1.u, x.1.ps)
theorem PlAt.tch {R : List Rn} {rt B : Nat} {w w' : World} {x : Pl} {h : Hole} (hx : PlAt R rt B w x) (t : Tch 38 rt B h w w') (ha : Apart x.1 h) : PlAt R rt B w' x := by
  obtain ⟨xB, xT, ⟨y0, y1, y2, c0, c1, c2⟩, hy⟩ := hx
  have has : ∀ j, j < 3 → Aside [h] x.1.b (x.1.off + j) := by
    intro j hj y hy hyb
    have hyh : y = h := by simpa using hy
    rw [hyh] at hyb ⊢
    rcases ha hyb.symm with h' | h'
    · exact .inl (by omega)
    · exact .inr (by omega)
  exact ⟨xB, t.kept _ xT, ⟨y0, y1, y2, (t.cell _ _ xT (has 0 (by omega))).trans c0, (t.cell _ _ xT (has 1 (by omega))).trans c1, (t.cell _ _ xT (has 2 (by omega))).trans c2⟩, hy⟩
/-- Between two rounds. -/
def LyInv (R : List Rn) (w : World) (rt rb : Nat) (k n : Int) (ps : Fo) (t : Value) (W : World) (m : Nat) : Prop :=
  ∃ Hs : List Pl, left_ (Hs.map (·.1)) = m ∧ m ≤ 1000000 ∧ W.ownsRow w.heap.size 131 2 t Hs.length (Hs.flatMap plC) ∧ (∀ x ∈ Hs, PlAt R rt w.heap.size W x) ∧ (Hs.map (·.1)).Pairwise Apart ∧
    Wand idn 38 rt w.heap.size rb k n ps W (Hs.map (·.1)) ∧ Below w.heap.size w W ∧ W.heap[rt]? = some (Obj.cells rt0 38) ∧ w.heap.size ≤ rt ∧ isT 38 rt W rb
/-- The places of a list's types. -/
def plsOf (c : Nat) (f : Fo) (P : List Nat) : List Pl := (holesOf c 0 f).zip P
theorem plsOf_fst (c : Nat) (f : Fo) (P : List Nat) (h : P.length = f.len) : (plsOf c f P).map (·.1) = holesOf c 0 f := by
  unfold plsOf
  rw [List.map_fst_zip (by rw [holesOf_len]; omega)]
theorem holesOf_at (c : Nat) (f : Fo) (off j : Nat) (hj : j < f.len) : (holesOf c off f)[j]? = some ⟨c, off + j * 3, (f.at_ j).1, (f.at_ j).2.1, (f.at_ j).2.2.1, (f.at_ j).2.2.2⟩ := by
  induction f generalizing off j with
  | nil => simp [Fo.len] at hj
  | cons k n u ps r _ ih =>
    cases j with
    | zero => simp [holesOf, Fo.at_]
    | succ j =>
      simp only [holesOf, List.getElem?_cons_succ, Fo.at_]
      rw [ih (off + 3) j (by simp only [Fo.len] at hj; omega), show off + 3 + j * 3 = off + (j + 1) * 3 by omega]
theorem plsOf_at (c : Nat) (f : Fo) (P : List Nat) (j p : Nat) (hj : j < f.len) (hp : P[j]? = some p) : (plsOf c f P)[j]? = some (⟨c, j * 3, (f.at_ j).1, (f.at_ j).2.1, (f.at_ j).2.2.1, (f.at_ j).2.2.2⟩, p) := by
  unfold plsOf
  rw [List.getElem?_zip_eq_some]
  exact ⟨by rw [holesOf_at c f 0 j hj, Nat.zero_add], hp⟩
/-- A round, put together. -/
theorem ly_step {R : List Rn} (hRI : RI R) {w : World} {rt rb : Nat} {k n : Int} {ps : Fo} {wr w5 : World} {Hq : List Pl} {h : Hole} {i : Nat} {t5 : Value} {c : Nat} {u2 : Sl} {y : Rn}
    (hat : ∀ x ∈ Hq ++ [(h, i)], PlAt R rt w.heap.size wr x) (hap : ((Hq ++ [(h, i)]).map (·.1)).Pairwise Apart) (hwd : Wand idn 38 rt w.heap.size rb k n ps wr ((Hq ++ [(h, i)]).map (·.1))) (hb : Below w.heap.size w wr) (hrt : wr.heap[rt]? = some (Obj.cells rt0 38)) (hrt2 : w.heap.size ≤ rt) (hrb : Go.Proofs.Ytbdckmnppeglfaa.isT 38 rt wr rb)
    (hsm : left_ ((Hq ++ [(h, i)]).map (·.1)) ≤ 1000000) (hy : R[i]? = some y) (hyn : NEq y (h.k, h.n, h.u, h.ps)) (t : Tch 38 rt w.heap.size h wr w5) (hc : wr.heap.size ≤ c)
    (c0 : w5.cell? ⟨h.b, h.off, none⟩ = some (.int .i64 h.k)) (c1 : w5.cell? ⟨h.b, h.off + 1, none⟩ = some (.int .i64 h.n)) (c2 : w5.cell? ⟨h.b, h.off + 2, none⟩ = some (slv u2))
    (hu : (h.ps.len = 0 ∧ ∃ A cp, u2 = (A, 0, cp)) ∨ (0 < h.ps.len ∧ (∃ cs, w5.heap[c]? = some (Obj.cells cs 38)) ∧ (∀ j, j < h.ps.len * 3 → ∃ z, w5.cell? ⟨c, j, none⟩ = some z) ∧ ∃ cp, u2 = (some ⟨c, 0, none⟩, h.ps.len, cp) ∧ h.ps.len ≤ cp ∧ cp ≤ maxLen))
    (hown : w5.ownsRow w.heap.size 131 2 t5 (Hq ++ plsOf c h.ps y.2.2.2.2).length ((Hq ++ plsOf c h.ps y.2.2.2.2).flatMap plC)) : LyInv R w rt rb k n ps t5 w5 (left_ (Hq.map (·.1)) + h.ps.size) := by
  obtain ⟨hbB, hT, -, -⟩ := hat (h, i) (List.mem_append_right _ (List.mem_singleton.2 rfl))
  have hrl : rt < wr.heap.size := (Array.getElem?_eq_some_iff.1 hrt).1
  rw [List.map_append, List.map_cons, List.map_nil] at hap hwd hsm
  have hpa : ∀ x ∈ Hq.map (·.1), Apart x h := fun x hx => (List.pairwise_append.1 hap).2.2 x hx h (List.mem_singleton.2 rfl)
  have hlt : ∀ x ∈ Hq.map (·.1), x.b < wr.heap.size := fun x hx => by
    obtain ⟨z, hz, rfl⟩ := List.mem_map.1 hx
    exact (hat z (List.mem_append_left _ hz)).2.1.lt
  obtain ⟨hr1, hr2⟩ := hRI i y hy
  have hyl : y.2.2.2.1.len = h.ps.len := by rw [← Fo.pure_len, hyn.2.2, Fo.pure_len]
  have hPl : y.2.2.2.2.length = h.ps.len := hr1.trans hyl
  have hfst : (Hq ++ plsOf c h.ps y.2.2.2.2).map (·.1) = Hq.map (·.1) ++ holesOf c 0 h.ps := by rw [List.map_append, plsOf_fst _ _ _ hPl]
  refine ⟨Hq ++ plsOf c h.ps y.2.2.2.2, by rw [hfst, left_app, left_holes], ?_, hown, ?_, ?_, ?_, hb.trans t.below, t.rt _ hrt, hrt2, t.kept _ hrb⟩
  · rw [left_app] at hsm
    simp only [left_, List.map_cons, List.map_nil, List.sum_cons, List.sum_nil] at hsm ⊢
    omega
  · intro x hx
    rcases List.mem_append.1 hx with hx | hx
    · exact (hat x (List.mem_append_left _ hx)).tch t (hpa x.1 (List.mem_map.2 ⟨x, hx, rfl⟩))
    · obtain ⟨j, hj⟩ := List.mem_iff_getElem?.1 hx
      have hjl : j < h.ps.len := by
        have h1 := (List.getElem?_eq_some_iff.1 hj).1
        unfold plsOf at h1
        rw [List.length_zip, holesOf_len] at h1
        omega
      obtain ⟨p, z, a1, _, a3, a4⟩ := hr2 j (by omega)
      rw [plsOf_at c h.ps _ j p hjl a1] at hj
      injection hj with hj
      subst hj
      obtain ⟨q1, q2, q3⟩ := pure_at hyn.2.2 j
      rcases hu with ⟨h0, _⟩ | ⟨_, hcT, hcc, _⟩
      · omega
      · obtain ⟨z0, hz0⟩ := hcc (j * 3) (by omega)
        obtain ⟨z1, hz1⟩ := hcc (j * 3 + 1) (by omega)
        obtain ⟨z2, hz2⟩ := hcc (j * 3 + 2) (by omega)
        exact ⟨Nat.le_trans hb.size hc, ⟨by simp only; omega, hcT⟩, ⟨z0, z1, z2, hz0, hz1, hz2⟩, z, a3, a4.1.trans q1, a4.2.1.trans q2, a4.2.2.trans q3⟩
  · rw [hfst]
    refine List.pairwise_append.2 ⟨(List.pairwise_append.1 hap).1, holesOf_apart _ _ _, fun x hx y hy e => ?_⟩
    have := hlt x hx
    have := (holesOf_b hy).1
    omega
  · rw [hfst]
    refine hwd.step hpa hbB hT t.below.size (fun b off _ hbT => ⟨t.kept b hbT, fun ha => t.cell b off hbT ha⟩) c0 (by rw [nm_id]; exact c1) c2 hc ?_
    rcases hu with h0 | ⟨hp, ⟨cs, hcs⟩, _, cp, e, h1, h2⟩
    · exact .inl h0
    · exact .inr ⟨hp, (Array.getElem?_eq_some_iff.1 hcs).1, cp, e, h1, h2⟩
end Go.Proofs.Ytbdckmnppeglfaa
