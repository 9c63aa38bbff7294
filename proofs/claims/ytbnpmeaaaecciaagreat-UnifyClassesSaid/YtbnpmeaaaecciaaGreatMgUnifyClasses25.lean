/- Texts of one proof, one behind the other. -/
import Derived.Test.YtbnpmeaaaecciaaGreatMgUnifyClasses24
/- unify: joinAll: what stands within a round. -/
namespace Go.Proofs.YtbnpmeaaaecciaaGreat
open Go.RowKit
open Un (Else StM rowI UFo own_else dg swp wp_world paint cnt)
set_option maxRecDepth 100000
/-- A node's parts, or none's. -/
def partsO (G : List Gn) : Option Nat → List Nat
  | some i => ((G[i]?).map fun p => p.2.2.2).getD []
  | none => []
section
variable {O T : Nat → Prop} {w wr w' V : World} {cb g c : Nat} {A : Adr} {st st' : Int} {cl : Bool} {n : Nat} {G : List Gn} {kn kn' : Kn} {nx nx' col ro col' ro' : Nat → Nat} {fs fs' : Int} {E L : List (Nat × Nat)} {x y : Nat}
theorem parts_oi (hG : GrM 0 w A.g A.V A.mb A.L G) (o : Option Nat) (hP : ∀ p ∈ G, p.2.2.2.length ≤ 8) : Calls Tryz.prog 61 #[.pointer (some ⟨A.g, 0, none⟩), .int .i64 (oi o)] w fun e w' => ∃ v, e = .returned v ∧ w'.ownsRow w.heap.size 3 1 v (partsO G o).length (nums (partsO G o)) ∧ Below w.heap.size w w' := by
  cases o with
  | none => exact (parts_out w 0 A.g A.mb A.V A.L G hG (-1) (by omega)).mono fun e w' ⟨h1, h2⟩ => ⟨_, h1, World.ownsRow_nil _ _ _ _, h2⟩
  | some i =>
    by_cases hi : i < G.length
    · have := parts_in w 0 A.g A.mb A.V A.L G hG i hi (by have := hP G[i] (List.getElem_mem hi); omega)
      simp only [partsO, List.getElem?_eq_getElem hi, Option.map_some, Option.getD_some]
      exact this
    · have := parts_out w 0 A.g A.mb A.V A.L G hG (i : Int) (by omega)
      simp only [partsO, List.getElem?_eq_none (Nat.le_of_not_lt hi), Option.map_none, Option.getD_none]
      exact this.mono fun e w' ⟨h1, h2⟩ => ⟨_, h1, World.ownsRow_nil _ _ _ _, h2⟩
/-- Within a round. -/
structure JaS (O : Nat → Prop) (w : World) (cb : Nat) (A : Adr) (st : Int) (n : Nat) (G : List Gn) (kn : Kn) (nx col ro : Nat → Nat) (fs : Int) (g c : Nat) (L : List (Nat × Nat)) (wr : World) : Prop where
  cl : ClM O wr cb A st false n G kn nx col ro fs
  row : wr.ownsRow w.heap.size 76 2 (.slice (some ⟨g, 0, none⟩) L.length c) L.length (prC L)
  els : Else (fun b => O b ∨ w.heap.size ≤ b) w wr
  ge : w.heap.size ≤ g
theorem JaS.to (h : JaS O w cb A st n G kn nx col ro fs g c L wr) (hO : ∀ k, O k → k < w.heap.size) (he : Else T wr w') (ht : ∀ k, T k → O k ∨ wr.heap.size ≤ k) (hc : ClM O w' cb A st' false n G kn' nx' col' ro' fs') : JaS O w cb A st' n G kn' nx' col' ro' fs' g c L w' :=
  ⟨hc, own_else h.row he (fun k hk e => by
      cases hk
      have := h.ge
      have := (h.row.lt g rfl).2
      rcases ht g e with e | e
      · have := hO g e; omega
      · omega), h.els.trans (he.mono fun k hk => (ht k hk).imp id fun e => Nat.le_trans h.els.size e), h.ge⟩
theorem JaS.below (h : JaS O w cb A st n G kn nx col ro fs g c L wr) (hb : Below wr.heap.size wr w') : JaS O w cb A st n G kn nx col ro fs g c L w' :=
  ⟨h.cl.below hb, own_else h.row (Else.of_below (S := fun _ => False) hb) (fun _ _ e => e), h.els.trans (Else.of_below hb), h.ge⟩
theorem JaS.root (h : JaS O w cb A st n G kn nx col ro fs g c L wr) (hO : ∀ k, O k → k < w.heap.size) (hst : 0 ≤ fs ∧ fs ≤ 10000000000000) (i : Nat) (hi : i < n) : Calls Tryz.prog 58 #[.pointer (some ⟨cb, 3, none⟩), .int .i64 (i : Nat)] wr fun e w' => ∃ k : Nat, e = .returned (.int .i64 (ro i : Nat)) ∧ k ≤ dg n ∧ JaS O w cb A st n G kn nx col ro (fs + k) g c L w' :=
  (root_cl h.cl hst i hi).mono fun _ _ ⟨k, h1, h2, h3, h4⟩ => ⟨k, h1, h2, h.to hO h4 (fun j hj => .inl (h.cl.own j (.inr (.inl hj)))) h3⟩
theorem JaS.pair (h : JaS O w cb A st n G kn nx col ro fs g c (L ++ [(x, y)]) wr) : wr.cell? ⟨g, L.length * 2, none⟩ = some (.int .i64 (x : Nat)) ∧ wr.cell? ⟨g, L.length * 2 + 1, none⟩ = some (.int .i64 (y : Nat)) := by
  obtain ⟨h1, h2⟩ := prC_last L (x, y)
  have hl := prC_len (L ++ [(x, y)])
  have hr := h.row
  have : (L ++ [(x, y)]).length = L.length + 1 := by simp
  exact ⟨(hr.cellAt _ (by omega)).trans h1, (hr.cellAt _ (by omega)).trans h2⟩
theorem JaS.pop (h : JaS O w cb A st n G kn nx col ro fs g c (L ++ [(x, y)]) wr) : JaS O w cb A st n G kn nx col ro fs g c L wr := ⟨h.cl, own_pop h.row, h.els, h.ge⟩
theorem JaS.count (h : JaS O w cb A st n G kn nx col ro fs g c L wr) (hO : ∀ k, O k → k < w.heap.size) (m : Int) (hm : 0 ≤ m ∧ m ≤ 1000000000000000) (hs : 0 ≤ st ∧ st ≤ 1000000000000000) :
    Calls Tryz.prog 59 #[.pointer (some ⟨cb, 0, none⟩), .int .i64 m] wr fun e w' => e = .returned (.tuple #[]) ∧ JaS O w cb A (st + m) n G kn nx col ro fs g c L w' :=
  (count_cl h.cl m hm hs).mono fun _ _ ⟨h1, h2, h3⟩ => ⟨h1, h.to hO h3 (fun j hj => by subst hj; exact .inl (h.cl.own _ (.inr (.inr (.inl rfl))))) h2⟩
theorem JaS.join (h : JaS O w cb A st n G kn nx col ro fs g c L wr) (hO : ∀ k, O k → k < w.heap.size) (hnG : n ≤ G.length) (hst : 0 ≤ fs ∧ fs ≤ 10000000000000) (a b : Nat) (ha : a < n) (hb : b < n) (hva : Vn n G (kn a).2) (hvb : Vn n G (kn b).2) (hd : ∀ x y, (kn a).2 = some x → (kn b).2 = some y → x ≠ y) :
    Calls Tryz.prog 60 #[.pointer (some ⟨cb, 0, none⟩), .int .i64 (a : Nat), .int .i64 (b : Nat)] wr fun e w' => e = .returned (.tuple #[]) ∧ ∃ (r k : Nat) (ro' : Nat → Nat), r < n ∧ (∀ i, i < n → ro' i = if paint col a b i = paint col a b r then r else ro i) ∧ (col r = col a ∨ col r = col b) ∧ k ≤ 2 * dg n ∧
      JaS O w cb A st n G (kup kn r ((kn a).1.or (kn b).1, ml G (kn a).2 (kn b).2)) (mr nx (kn a).2 (kn b).2) (paint col a b) ro' (fs + k) g c L w' :=
  (join_cl h.cl hnG hst a b ha hb hva hvb hd).mono fun _ _ ⟨h1, r, k, ro', h2, h3, h4, h5, h6, h7⟩ => ⟨h1, r, k, ro', h2, h3, h4, h5, h.to hO h7 (fun _ hj => .inl hj) h6⟩
/-- What is known of a root, as it lies. -/
theorem JaS.knows (h : JaS O w cb A st n G kn nx col ro fs g c L wr) (i : Nat) (hi : i < n) : ∃ kb cK, A.K = .slice (some ⟨kb, 0, none⟩) n cK ∧ wr.cell? ⟨cb, 6, none⟩ = some (.slice (some ⟨kb, 0, none⟩) n cK) ∧ ∀ i, i < n → wr.cell? ⟨kb, i * 2, none⟩ = some (.int .i64 (oi (kn i).1)) := by
  obtain ⟨_, _, _, _, _, c6, _⟩ := h.cl.cells
  obtain ⟨kb, cK, hK, _, _⟩ := Un.own_shape h.cl.kr (by omega)
  have hrow := h.cl.kr
  rw [hK] at c6 hrow
  have hl := knR_len n kn
  exact ⟨kb, cK, hK, c6, fun i hi => (hrow.cellAt (i * 2) (by omega)).trans (knR_get hi).1⟩
/-- One pair more. -/
theorem JaS.push (h : JaS O w cb A st n G kn nx col ro fs g c L wr) (hO : ∀ k, O k → k < w.heap.size) (x : Nat × Nat) (hm : L.length ≤ 100000000) :
    ∃ g' c' w1, (app_ #[73, 73] 73 #[.slice (some ⟨g, 0, none⟩) L.length c, .slice (some ⟨wr.heap.size, 0, none⟩) 1 1]).run Tryz.prog (wr.alloc (.cells #[.int .i64 (x.1 : Nat), .int .i64 (x.2 : Nat)] 76)) = .ok (.slice (some ⟨g', 0, none⟩) (L.length + 1) c') w1 ∧
      JaS O w cb A st n G kn nx col ro fs g' c' (L ++ [x]) w1 ∧ Else (fun k => k = g) wr w1 ∧ (g' = g ∨ wr.heap.size ≤ g') := by
  obtain ⟨g', c', w1, hrun, hown, hgr, hat⟩ := app_pr wr _ L w.heap.size h.els.size h.row x hm
  have hE : Else (fun k => k = g) wr w1 := (Un.Else.alloc _ _ _).trans (Un.Else.grown hgr fun k hk => by cases hk; rfl)
  have hge := h.ge
  have hws := h.els.size
  have hl : (L ++ [x]).length = L.length + 1 := by simp
  refine ⟨g', c', w1, hrun, ⟨h.cl.aside hE fun k hk e => ?_, by rw [hl] at hown ⊢; exact hown, h.els.trans (hE.mono fun k hk => .inr (by omega)), ?_⟩, hE, ?_⟩
  · have := hO k (h.cl.own k hk)
    omega
  · rcases hat with e | e
    · cases e; exact hge
    · omega
  · rcases hat with e | e
    · cases e; exact .inl rfl
    · exact .inr (by omega)
theorem stepsOf_eq (h : ClM O wr cb A st cl n G kn nx col ro fs) : stepsOf cb wr = st := by
  obtain ⟨_, _, c0, _⟩ := h.cells
  simp [stepsOf, c0]
theorem dg_step (n k : Nat) : 4 * (dg n : Int) * ((k + 1 : Nat) : Int) = 4 * (dg n : Int) * k + 4 * (dg n : Int) := by
  rw [show ((k + 1 : Nat) : Int) = (k : Int) + 1 by omega, Int.mul_add, Int.mul_one]
/-- The round's end. -/
theorem JaS.again {s s0 : Int} {k M : Nat} {f0 : Int} (h : JaS O w cb A s n G kn nx col ro fs g c L w') (hs0 : s0 + (k : Int) + 1 = s) (hJ : Js G n col ro kn E L) (hR : Un.Rings n nx (vc G col)) (hf1 : f0 ≤ fs) (hf2 : fs ≤ f0 + 4 * (dg n : Nat) * k + 4 * (dg n : Nat)) (hM : (k + 1) + 9 * cnt n col + L.length ≤ M) (hw : stepsOf cb wr = s0 + (k : Int)) (hk : (k : Int) < M) :
    JaR O w cb A s0 n G f0 E M (.slice (some ⟨g, 0, none⟩) L.length c) w' ∧ ((M : Int) - (stepsOf cb w' - s0)).toNat < ((M : Int) - (stepsOf cb wr - s0)).toNat := by
  refine ⟨⟨L, g, c, k + 1, kn, nx, col, ro, fs, rfl, h.ge, h.row, ?_, hJ, hR, hf1, ?_, hM, h.els⟩, ?_⟩
  · rw [show s0 + ((k + 1 : Nat) : Int) = s by omega]
    exact h.cl
  · rw [dg_step]
    omega
  · rw [stepsOf_eq h.cl, hw]
    omega
/-- The end: they clash. -/
theorem ja_clash {s dE fE f0 s0 : Int} {k M : Nat} (hC : ClM O w' cb A (s + dE) true n G kn nx col ro fE) (hs : s = s0 + (k : Int) + 1) (hd : fE - f0 = dE) (h1 : f0 ≤ fE) (h2 : fE ≤ f0 + 4 * (dg n : Int) * k + 4 * (dg n : Int)) (hM : k + 1 ≤ M) (hcl : Clash G E) (hE : Else O w w') : JaPost O w cb A s0 n G f0 E M (.returned (.tuple #[])) w' := by
  refine ⟨rfl, ⟨true, k + 1, kn, nx, col, ro, fE, ?_, h1, ?_, hM, fun _ => hcl, fun e => (by cases e)⟩, hE⟩
  · rw [show s0 + ((k + 1 : Nat) : Int) + (fE - f0) = s + dE by omega]
    exact hC
  · rw [dg_step]
    omega
/-- The end: nothing is left. -/
theorem ja_done {s dE fE f0 s0 : Int} {k M : Nat} (hC : ClM O w' cb A (s + dE) false n G kn nx col ro fE) (hs : s = s0 + (k : Int)) (hd : fE - f0 = dE) (h1 : f0 ≤ fE) (h2 : fE ≤ f0 + 4 * (dg n : Int) * k) (hM : k + 9 * cnt n col ≤ M) (hJ : Js G n col ro kn E []) (hR : Un.Rings n nx (vc G col)) (hE : Else O w w') : JaPost O w cb A s0 n G f0 E M (.returned (.tuple #[])) w' := by
  refine ⟨rfl, ⟨false, k, kn, nx, col, ro, fE, ?_, h1, h2, by omega, fun e => (by cases e), fun _ => ⟨hJ, hR, hM⟩⟩, hE⟩
  rw [show s0 + (k : Int) + (fE - f0) = s + dE by omega]
  exact hC
end
end Go.Proofs.YtbnpmeaaaecciaaGreat
