/- Texts of one proof, one behind the other. -/
import Derived.Test.YtbdckmnppeglfaaMgGraphAdds32
import Derived.Test.YtbdckmnppeglfaaMgGraphAdds23
import Derived.Test.YtbdckmnppeglfaaMgGraphAdds30
import Derived.Test.YtbdckmnppeglfaaMgGraphAdds25
import Derived.Test.YtbdckmnppeglfaaMgGraphAdds31
/- graph's Type. -/
namespace Go.Proofs.Ytbdckmnppeglfaa
open Go.RowKit Go.Shelf
set_option maxRecDepth 100000
set_option maxHeartbeats 4000000 in
theorem type_out (w : World) (B g mb : Nat) (v : Value) (L : List Nd) (G : List Gn) (hG : GrM B w g v mb L G) (i most : Int) (hi : ¬ (0 ≤ i ∧ i < G.length)) : Calls Try.prog 22 #[.pointer (some ⟨g, 0, none⟩), .int .i64 i, .int .i64 most] w fun e w' => e = .returned (.tuple #[tyVal 0 0 (.slice none 0 0), .int .i64 9]) ∧ Below w.heap.size w w' := by
  obtain ⟨w1, hw1⟩ : ∃ w1, w.alloc (.cells #[.int .i64 0, .int .i64 0, .slice none 0 0] 38) = w1 := ⟨_, rfl⟩
  have hb1 : Below w.heap.size w w1 := by rw [← hw1]; exact (Below.refl _ _).alloc (Nat.le_refl _) _
  have hx1 : w1.heap[w.heap.size]? = some (Obj.cells #[.int .i64 0, .int .i64 0, .slice none 0 0] 38) := by rw [← hw1]; exact heap_alloc_new w _
  have hlt : w.heap.size < w1.heap.size := by rw [← hw1]; simp
  have hh := has_out w1 B g mb v L G (hG.below hb1) i hi
  have HH := Lib.hid hh
  have HB1 := Lib.hid hb1
  have HX1 := Lib.hid hx1
  clear hh hG hb1 hx1
  go_enter Try.func22, Try.ntmps22
  go_wp2_with fail
  refine HH.out.mono ?_
  rintro e w2 ⟨rfl, hb2⟩
  have hx2 : w2.heap[w.heap.size]? = some (Obj.cells #[.int .i64 0, .int .i64 0, .slice none 0 0] 38) := (hb2.block _ hlt).trans HX1.out
  obtain ⟨r0, r1, r2, z0, z1, z2, w3, hw3, hld, hsz, hfar, hbl⟩ := ret_cells (w := w2) w.heap.size 0 0 (none, 0, 0) hx2
  dsimp only [slv] at hw3 hld
  have HB := Lib.hid (HB1.out.trans ((hb2.mono (Nat.le_of_lt hlt)).trans hbl))
  have HLD := Lib.hid hld
  clear hx2 hld hsz hfar hbl hb2
  go_wp2_with fail
  exact bodyPost_ret (results_cell_tmp rfl _ _ _ _ rfl HLD.out) rfl ⟨rfl, HB.out⟩
/-- What Type gives of a node. -/
abbrev TyIs (y : Rn) (most : Int) (w : World) : Ending → World → Prop := fun e w' =>
  Below w.heap.size w w' ∧ if (1 + y.2.2.2.1.size : Int) ≤ most then ∃ (u : Sl) (F : Fo), e = .returned (.tuple #[tyVal y.1 y.2.1 (slv u), .int .i64 0]) ∧ F.pure = y.2.2.2.1.pure ∧ TyV w'.heap.size w' F (slv u)
    else e = .returned (.tuple #[tyVal 0 0 (.slice none 0 0), .int .i64 6])
set_option maxHeartbeats 4000000 in
theorem type_in (w : World) (B g mb : Nat) (v : Value) (L : List Nd) (R : List Rn) (hG : GrM B w g v mb L (R.map rG)) (hRI : RI R) (i : Nat) (y : Rn) (hy : R[i]? = some y) (hs : y.2.2.2.1.size ≤ 100000) (most : Int) :
    Calls Try.prog 22 #[.pointer (some ⟨g, 0, none⟩), .int .i64 (i : Nat), .int .i64 most] w (TyIs y most w) := by
  have hiR : i < R.length := (List.getElem?_eq_some_iff.1 hy).1
  have hiG : i < (R.map rG).length := by simpa using hiR
  obtain ⟨w1, hw1⟩ : ∃ w1, w.alloc (.cells #[.int .i64 0, .int .i64 0, .slice none 0 0] 38) = w1 := ⟨_, rfl⟩
  have hb1 : Below w.heap.size w w1 := by rw [← hw1]; exact (Below.refl _ _).alloc (Nat.le_refl _) _
  have hx1 : w1.heap[w.heap.size]? = some (Obj.cells #[.int .i64 0, .int .i64 0, .slice none 0 0] 38) := by rw [← hw1]; exact heap_alloc_new w _
  have hlt : w.heap.size < w1.heap.size := by rw [← hw1]; simp
  have hG1 := hG.below hb1
  have hh := has_in w1 B g mb v L (R.map rG) hG1 i hiG
  have HH := Lib.hid hh
  have HB1 := Lib.hid hb1
  have HX1 := Lib.hid hx1
  have HG1 := Lib.hid hG1
  have HRI := Lib.hid hRI
  have HY := Lib.hid hy
  have hRx : (R.map rG)[i]'hiG = rG y := by simp [(List.getElem?_eq_some_iff.1 hy).2]
  have HRX := Lib.hid hRx
  have hl := hG.nodes.len
  clear hh hG hb1 hx1 hG1 hRI hy hRx
  go_enter Try.func22, Try.ntmps22
  go_wp2_with fail
  refine HH.out.mono ?_
  rintro e w2 ⟨rfl, hb2⟩
  have hG := HG1.out.below hb2
  obtain ⟨a, c, rfl, -, -⟩ := own_shape hG.row (by omega)
  have hnd := hG.nodes.at i (by omega) hiG
  rw [HRX.out] at hnd
  obtain ⟨-, -, q2, -⟩ := ndC_at L i (by omega)
  have x2 : w2.cell? ⟨a, i * 4 + 2, none⟩ = some (.int .i64 L[i].2.2.1) := by rw [hG.row.cellAt _ (by omega)]; exact q2
  obtain ⟨q, hq⟩ : ∃ q : Nat, 1 + y.2.2.2.1.size = q := ⟨_, rfl⟩
  have hq2 : L[i].2.2.1 = (q : Int) := by rw [hnd.2.2.1, ← hq]; rfl
  rw [hq2] at x2
  have g0 : w2.cell? ⟨g, 0, none⟩ = some (.slice (some ⟨a, 0, none⟩) L.length c) := cell_of_row w2 _ 0 _ _ (0, 0) hG.cell
  have hx2 : w2.heap[w.heap.size]? = some (Obj.cells #[.int .i64 0, .int .i64 0, .slice none 0 0] 38) := (hb2.block _ hlt).trans HX1.out
  have hiL : i < L.length := by omega
  have hqi : (1 + (y.2.2.2.1.size : Int)) = (q : Int) := by omega
  have HQI := Lib.hid hqi
  have HG2 := Lib.hid hG
  have HB2 := Lib.hid (HB1.out.trans (hb2.mono (Nat.le_of_lt hlt)))
  have HX2 := Lib.hid hx2
  have hl2 := hb2.size
  have hl9 : w.heap.size ≤ w2.heap.size := by omega
  clear hnd q2 hG hl hq hq2 hqi hb2 hx2
  by_cases hm : (q : Int) ≤ most
  · have f1 : decide (most < (q : Int)) = false := by simp; omega
    have HL := Lib.hid (lay_graph w2 B g mb _ L R HG2.out HRI.out i y HY.out hs)
    go_wp2_with fail
    refine HL.out.mono ?_
    rintro e w3 ⟨⟨u1, u2, u3⟩, rfl, hF, hb3⟩
    have hx3 : w3.heap[w.heap.size]? = some (Obj.cells #[.int .i64 0, .int .i64 0, .slice none 0 0] 38) := (hb3.block _ (by omega)).trans HX2.out
    obtain ⟨r0, r1, r2, z0, z1, z2, w4, hw4, hld, hsz, hfar, hbl⟩ := ret_cells (w := w3) w.heap.size y.1 y.2.1 (u1, u2, u3) hx3
    dsimp only [slv] at hw4 hld
    have hF4 : FreshT 38 w2.heap.size w4 idn y.2.2.2.1 (u1, u2, u3) := hF.to (by omega) fun b cs hb hc => (hfar b (by omega)).trans hc
    obtain ⟨F, hFI, hFT⟩ := hF4.now
    have HB := Lib.hid (HB2.out.trans ((hb3.mono hl9).trans hbl))
    have HLD := Lib.hid hld
    have HFF := Lib.hid (And.intro ((img_iff _ _).1 hFI) hFT)
    clear hF hx3 hld hsz hfar hbl hb3 hF4 hFI hFT
    dsimp only [tyVal, slv]
    go_wp2_with fail
    refine bodyPost_ret (results_cell_tmp rfl _ _ _ _ rfl HLD.out) rfl ⟨HB.out, ?_⟩
    rw [HQI.out, if_pos hm]
    exact ⟨(u1, u2, u3), F, rfl, HFF.out.1, HFF.out.2⟩
  · have f1 : decide (most < (q : Int)) = true := by simp; omega
    obtain ⟨r0, r1, r2, z0, z1, z2, w3, hw3, hld, hsz, hfar, hbl⟩ := ret_cells (w := w2) w.heap.size 0 0 (none, 0, 0) HX2.out
    dsimp only [slv] at hw3 hld
    have HB := Lib.hid (HB2.out.trans hbl)
    have HLD := Lib.hid hld
    clear hld hsz hfar hbl
    go_wp2_with fail
    refine bodyPost_ret (results_cell_tmp rfl _ _ _ _ rfl HLD.out) rfl ⟨HB.out, ?_⟩
    rw [HQI.out, if_neg (by omega)]
    rfl
end Go.Proofs.Ytbdckmnppeglfaa
/- graph's laws: how great nodes' types are; the document's Size. -/
namespace Go.Proofs.Ytbdckmnppeglfaa
open Go.RowKit Go.Shelf
set_option maxRecDepth 100000
theorem rnode_sizes {R : List Rn} {k n : Int} {u : Sl} {ps : Fo} {P : List Nat} {x : Rn} (hx : x ∈ (rnode R k n u ps P).1) : x ∈ R ∨ x.2.2.2.1.size = ps.size := by
  unfold rnode at hx
  split at hx
  · exact .inl hx
  · rcases List.mem_append.1 hx with hx | hx
    · exact .inl hx
    · obtain rfl : x = (k, n, u, ps, P) := by simpa using hx
      exact .inr rfl
theorem radd_sizes (F : Fo) : ∀ R x, x ∈ (radd R F).1 → x ∈ R ∨ 1 + x.2.2.2.1.size ≤ F.size := by
  induction F with
  | nil => intro R x hx; rw [radd_nil] at hx; exact .inl hx
  | cons k n u ps r i1 i2 =>
    intro R x hx
    rw [radd_cons] at hx
    simp only [Fo.size]
    rcases i2 _ x hx with hx | hx
    · rw [radd1_eq] at hx
      rcases rnode_sizes hx with hx | hx
      · rcases i1 _ x hx with hx | hx
        · exact .inl hx
        · exact .inr (by omega)
      · exact .inr (by omega)
    · exact .inr (by omega)
theorem bAll_sizes (F : Fo) : ∀ s x, x ∈ (bAll s F).1 → x ∈ s.1 ∨ 1 + x.2.2.2.1.size ≤ F.size := by
  induction F with
  | nil => intro s x hx; exact .inl hx
  | cons k n u ps r _ ih =>
    intro s x hx
    simp only [Fo.size]
    rcases ih _ x hx with hx | hx
    · unfold bOne at hx
      split at hx
      · have h := radd_sizes (.cons k n u ps .nil) s.1 x (by rw [radd_cons, radd_nil]; exact hx)
        simp only [Fo.size] at h
        rcases h with h | h
        · exact .inl h
        · exact .inr (by omega)
      · exact .inl hx
    · exact .inr (by omega)
/-- A node's type, as it lies in the document's graph. -/
theorem RgM.cells {D : Nat → Prop} {BT : Nat} {w : World} {A : Option Addr} {c : Nat} {M : List Rm} {R : List Rn} (h : RgM D BT w (.slice A M.length c) M) (hR : M1 M = R) (i : Nat) (y : Rn) (hy : R[i]? = some y) :
    ∃ b off, A = some ⟨b, off, none⟩ ∧ b < w.heap.size ∧ w.cell? ⟨b, off + i * 4, none⟩ = some (.int .i64 y.1) ∧ w.cell? ⟨b, off + i * 4 + 1, none⟩ = some (.int .i64 y.2.1) ∧ w.cell? ⟨b, off + i * 4 + 2, none⟩ = some (slv y.2.2.1) ∧ TyV BT w y.2.2.2.1 (slv y.2.2.1) := by
  have hi : i < M.length := by have := (List.getElem?_eq_some_iff.1 hy).1; rw [← hR] at this; simpa [M1] using this
  have hMi : M[i].1 = y := by
    rw [← hR, List.getElem?_map, List.getElem?_eq_getElem hi] at hy
    simpa using hy
  obtain ⟨b, off, cap, hv, _, _, hlt, hc⟩ := h.row.1.2.resolve_left (by rintro ⟨h, _⟩; omega)
  injection hv with hA _ _
  obtain ⟨p0, p1, p2, -⟩ := rmC_at M i hi
  rw [hMi] at p0 p1 p2
  exact ⟨b, off, hA, hlt, hc _ _ p0, by rw [Nat.add_assoc]; exact hc _ _ p1, by rw [Nat.add_assoc]; exact hc _ _ p2, by have := (h.nodes M[i] (List.getElem_mem _)).1; rwa [hMi] at this⟩
set_option maxHeartbeats 2000000 in
theorem rsizeG (w : World) (D : Nat → Prop) (BT : Nat) (hBT : BT ≤ w.heap.size) (v : Value) (M : List Rm) (R : List Rn) (h : RgM D BT w v M) (hR : M1 M = R) (i : Nat) (y : Rn) (hy : R[i]? = some y) (hs : y.2.2.2.1.size ≤ 1000000) :
    Calls Try.prog 24 #[v, .int .i64 (i : Nat)] w fun e w' => e = .returned (.int .i64 (1 + y.2.2.2.1.size)) ∧ Below w.heap.size w w' := by
  obtain ⟨A, c, rfl⟩ := h.row.1.form
  have hi : i < M.length := by have := (List.getElem?_eq_some_iff.1 hy).1; rw [← hR] at this; simpa [M1] using this
  obtain ⟨b, off, rfl, hlt, c0, c1, c2, hT⟩ := h.cells hR i y hy
  obtain ⟨yk, yn, ⟨u1, u2, u3⟩, yps, yP⟩ := y
  dsimp only [slv] at c0 c1 c2 hT hs ⊢
  have hsz := rsize_any _ yps yk yn (.slice u1 u2 u3) w (Nat.lt_succ_self _) hs (hT.keep hBT fun _ _ _ => rfl)
  unfold tyVal at hsz
  have HS := Lib.hid hsz
  obtain ⟨lm, hlm⟩ : ∃ lm, M.length = lm := ⟨_, rfl⟩
  rw [hlm] at hi ⊢
  clear hsz h hT hy hR hlm
  go_enter Try.func24, Try.ntmps24
  go_wp2_with fail
  refine HS.out.mono ?_
  rintro e w2 ⟨rfl, hb2⟩
  go_wp2_with fail
  go_ret
  exact ⟨rfl, hb2⟩
end Go.Proofs.Ytbdckmnppeglfaa
/- A graph's variables, sorted: plain. -/
namespace Go.Proofs.Ytbdckmnppeglfaa
/-- The variables, by their nodes. -/
def names (G : List Gn) : List Int := G.filterMap fun x => if x.1 = 1 then some x.2.1 else none
theorem names_snoc (G : List Gn) (x : Gn) : names (G ++ [x]) = names G ++ (if x.1 = 1 then [x.2.1] else []) := by
  simp only [names, List.filterMap_append]
  congr 1
  by_cases h : x.1 = 1 <;> simp [h]
theorem gvar_names (G : List Gn) (n : Int) : (gvar G n).isSome = true ↔ n ∈ names G := by
  induction G with
  | nil => simp [gvar, names]
  | cons x G ih =>
    simp only [gvar]
    by_cases h : x.1 = 1 ∧ x.2.1 = n
    · rw [if_pos h]
      simp [names, h.1, h.2]
    · rw [if_neg h, Option.isSome_map, ih]
      simp only [names, List.filterMap_cons]
      by_cases h1 : x.1 = 1
      · simp only [h1, if_true, List.mem_cons]
        constructor
        · exact .inr
        · rintro (h2 | h2)
          · exact absurd ⟨h1, h2.symm⟩ h
          · exact h2
      · simp only [h1, if_false]
/-- One more, in its place. -/
def insL : List Int → Int → List Int
  | [], n => [n]
  | a :: l, n => if a < n then a :: insL l n else n :: a :: l
theorem insL_perm (l : List Int) (n : Int) : (insL l n).Perm (n :: l) := by
  induction l with
  | nil => exact List.Perm.refl _
  | cons a l ih =>
    simp only [insL]
    split
    · exact (ih.cons a).trans (List.Perm.swap n a l)
    · exact List.Perm.refl _
theorem insL_sorted (l : List Int) (n : Int) (h : l.Pairwise (· ≤ ·)) : (insL l n).Pairwise (· ≤ ·) := by
  induction l with
  | nil => simp [insL]
  | cons a l ih =>
    obtain ⟨h1, h2⟩ := List.pairwise_cons.1 h
    simp only [insL]
    split
    · rename_i ha
      refine List.pairwise_cons.2 ⟨fun b hb => ?_, ih h2⟩
      rcases List.mem_cons.1 ((insL_perm l n).subset hb) with rfl | hb
      · omega
      · exact h1 b hb
    · rename_i ha
      refine List.pairwise_cons.2 ⟨fun b hb => ?_, h⟩
      rcases List.mem_cons.1 hb with rfl | hb
      · omega
      · have := h1 b hb; omega
theorem insL_at (l : List Int) (n : Int) (j : Nat) (hj : j ≤ l.length) (h1 : ∀ i a, i < j → l[i]? = some a → a < n) (h2 : ∀ a, l[j]? = some a → ¬ a < n) : insL l n = l.take j ++ n :: l.drop j := by
  induction l generalizing j with
  | nil => obtain rfl : j = 0 := by simpa using hj
           rfl
  | cons a l ih =>
    cases j with
    | zero =>
      have := h2 a rfl
      simp [insL, this]
    | succ j =>
      have := h1 0 a (by omega) rfl
      simp only [insL, this, if_true, List.take_succ_cons, List.drop_succ_cons, List.cons_append]
      rw [ih j (by simpa using hj) (fun i b hi hb => h1 (i + 1) b (by omega) (by simpa using hb)) (fun b hb => h2 b (by simpa using hb))]
theorem insL_len (l : List Int) (n : Int) : (insL l n).length = l.length + 1 := by simpa using (insL_perm l n).length_eq
/-- All variables, rising. -/
def vst (l : List Int) (x : Gn) : List Int := if x.1 = 1 then insL l x.2.1 else l
def vsort (G : List Gn) : List Int := G.foldl vst []
theorem vsort_snoc (G : List Gn) (x : Gn) : vsort (G ++ [x]) = vst (vsort G) x := by simp [vsort]
theorem vfold (G : List Gn) : ∀ l, l.Pairwise (· ≤ ·) → (G.foldl vst l).Pairwise (· ≤ ·) ∧ (G.foldl vst l).Perm (l ++ names G) := by
  induction G with
  | nil => intro l h; exact ⟨h, by simp [names]⟩
  | cons x G ih =>
    intro l h
    simp only [List.foldl_cons]
    by_cases hx : x.1 = 1
    · have e : names (x :: G) = x.2.1 :: names G := by simp [names, hx]
      obtain ⟨h1, h2⟩ := ih (insL l x.2.1) (insL_sorted l _ h)
      have e2 : vst l x = insL l x.2.1 := by simp [vst, hx]
      rw [e2, e]
      refine ⟨h1, h2.trans ((((insL_perm l x.2.1).append_right _)).trans ?_)⟩
      exact List.perm_middle.symm
    · have e : names (x :: G) = names G := by simp [names, hx]
      have e2 : vst l x = l := by simp [vst, hx]
      rw [e2, e]
      exact ih l h
theorem vsort_len (G : List Gn) : (vsort G).length ≤ G.length := by
  have h := (vfold G [] List.Pairwise.nil).2.length_eq
  have h2 : (names G).length ≤ G.length := List.length_filterMap_le _ _
  simp only [List.nil_append] at h
  unfold vsort
  omega
theorem vsort_take (G : List Gn) (j : Nat) (hj : j < G.length) : vsort (G.take (j + 1)) = vst (vsort (G.take j)) G[j] := by
  rw [List.take_add_one, List.getElem?_eq_getElem hj]
  exact vsort_snoc _ _
/-- Whatever sorts the same numbers gives the same. -/
theorem vsort_eq (G : List Gn) (ss : List Int) (h : ss.Perm (names G)) : (ss.mergeSort fun x y => decide (x ≤ y)) = vsort G := by
  obtain ⟨h1, h2⟩ := vfold G [] List.Pairwise.nil
  simp only [List.nil_append] at h2
  have tr : ∀ a b c : Int, decide (a ≤ b) = true → decide (b ≤ c) = true → decide (a ≤ c) = true := fun a b c p q => by simp only [decide_eq_true_eq] at *; omega
  have tot : ∀ a b : Int, (decide (a ≤ b) || decide (b ≤ a)) = true := fun a b => by simp only [Bool.or_eq_true, decide_eq_true_eq]; omega
  refine List.Perm.eq_of_pairwise (le := (· ≤ ·)) (fun a b _ _ h1 h2 => Int.le_antisymm h1 h2) ?_ h1 ((List.mergeSort_perm _ _).trans (h.trans h2.symm))
  exact (List.pairwise_mergeSort (le := fun x y => decide (x ≤ y)) tr tot ss).imp fun {a b} h => by simpa using h
/-- Each variable has one node; their numbers are such as an int may be. -/
structure ND (R : List Rn) : Prop where
  nd : (names (R.map rG)).Nodup
  wf : ∀ x ∈ R, (Lit.int .i64 x.2.1).wf = true
theorem ND.nil : ND [] := ⟨by simp [names], fun x h => by cases h⟩
theorem ND.names {R : List Rn} (h : ND R) : ∀ n ∈ names (R.map rG), (Lit.int .i64 n).wf = true := by
  intro n hn
  obtain ⟨x, hx, he⟩ := List.mem_filterMap.1 hn
  obtain ⟨y, hy, rfl⟩ := List.mem_map.1 hx
  split at he
  · injection he with he
    rw [← he]
    exact h.wf y hy
  · cases he
theorem rnode_ND {R : List Rn} {k n : Int} {u : Sl} {ps : Fo} {P : List Nat} (h : ND R) (hn : (Lit.int .i64 n).wf = true) : ND (rnode R k n u ps P).1 := by
  unfold rnode
  split
  · exact h
  · rename_i hg
    refine ⟨?_, fun x hx => ?_⟩
    · rw [List.map_append, List.map_cons, List.map_nil, names_snoc]
      by_cases hk : k = 1
      · rw [if_pos hk] at hg
        have : n ∉ Go.Proofs.Ytbdckmnppeglfaa.names (R.map rG) := fun hm => by
          have := (gvar_names _ n).2 hm
          rw [hg] at this
          cases this
        simp only [rG, hk, if_true]
        exact List.nodup_append.2 ⟨h.nd, by simp, fun a ha b hb e => by simp at hb; subst hb; subst e; exact this ha⟩
      · simp only [rG, hk, if_false, List.append_nil]
        exact h.nd
    · rcases List.mem_append.1 hx with hx | hx
      · exact h.wf x hx
      · obtain rfl : x = (k, n, u, ps, P) := by simpa using hx
        exact hn
theorem radd_ND (F : Fo) : ∀ R, ND R → F.wf → ND (radd R F).1 := by
  induction F with
  | nil => intro R h _; rw [radd_nil]; exact h
  | cons k n u ps r i1 i2 =>
    intro R h hw
    rw [radd_cons]
    refine i2 _ ?_ hw.2.2
    rw [radd1_eq]
    exact rnode_ND (i1 R h hw.2.1) hw.1
theorem bAll_ND (F : Fo) : ∀ s, ND s.1 → F.wf → ND (bAll s F).1 := by
  induction F with
  | nil => intro s h _; exact h
  | cons k n u ps r _ ih =>
    intro s h hw
    refine ih _ ?_ hw.2.2
    unfold bOne
    split
    · have := radd_ND (.cons k n u ps .nil) s.1 h ⟨hw.1, hw.2.1, trivial⟩
      rw [radd_cons, radd_nil] at this
      exact this
    · exact h
end Go.Proofs.Ytbdckmnppeglfaa
