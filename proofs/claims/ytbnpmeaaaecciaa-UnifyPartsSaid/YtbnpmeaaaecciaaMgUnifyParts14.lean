/- Texts of one proof, one behind the other. -/
import Derived.Test.YtbnpmeaaaecciaaMgUnifyParts13
import Derived.Test.YtbnpmeaaaecciaaMgUnifyParts6
import Derived.Test.YtbnpmeaaaecciaaMgUnifyParts2
import Derived.Deep.RegionLaw
/- Classes, as roots, what is known of them and what is left to do tell them. Nothing here speaks of the program. -/
namespace Go.Proofs.Ytbnpmeaaaecciaa
open Un (paint paint_eq)
/-- The least variable of each class. -/
structure Ls (G : List Gn) (n : Nat) (c : Nat → Nat) (le : Nat → Option Nat) : Prop where
  is : ∀ i l, i < n → le i = some l → l < n ∧ (∃ p, G[l]? = some p ∧ p.1 = 1) ∧ c l = c i ∧ ∀ v p, G[v]? = some p → p.1 = 1 → c v = c i → nmG G l ≤ p.2.1
  no : ∀ i v p, i < n → le i = none → G[v]? = some p → p.1 = 1 → c v ≠ c i
/-- Between two pairs. -/
structure Js (G : List Gn) (n : Nat) (col ro : Nat → Nat) (kn : Kn) (E T : List (Nat × Nat)) : Prop where
  jn : Jn G col E T
  len : n = G.length
  md : Md G col fun i => (kn (ro i)).1
  le : Ls G n col fun i => (kn (ro i)).2
  rt : ∀ i, i < n → ro i < n ∧ col (ro i) = col i
  un : ∀ i j, i < n → j < n → col i = col j → ro i = ro j
section
variable {G : List Gn} {n : Nat} {col ro ro' : Nat → Nat} {kn : Kn} {E T V : List (Nat × Nat)} {x y r : Nat}
theorem Js.pair (h : Js G n col ro kn E (T ++ [(x, y)])) : x < n ∧ y < n := by
  obtain ⟨h1, h2, _⟩ := h.jn.todo x y (by simp)
  have := h.len
  omega
theorem Js.skip (h : Js G n col ro kn E (T ++ [(x, y)])) (e : ro x = ro y) : Js G n col ro kn E T := by
  obtain ⟨hx, hy⟩ := h.pair
  exact ⟨h.jn.skip (a := x) (b := y) (fun e => by simp [or_comm]) (by rw [← (h.rt x hx).2, ← (h.rt y hy).2, e]), h.len, h.md, h.le, h.rt, h.un⟩
theorem Md.congr {c : Nat → Nat} {m m' : Nat → Option Nat} (h : Md G c m) (e : ∀ i, i < G.length → m' i = m i) : Md G c m' := by
  refine ⟨fun i j hi hj hc => by rw [e i hi, e j hj]; exact h.col i j hi hj hc, fun i p hp hn => ?_, fun i k hi hk => ?_⟩
  · rw [e i (lt_of_get hp)] at hn
    exact h.none i p hp hn
  · rw [e i hi] at hk
    exact h.some i k hi hk
theorem roots_join (h : Js G n col ro kn E T) (hx : x < n) (hy : y < n) (_hr : r < n) (hrc : col r = col (ro x) ∨ col r = col (ro y))
    (hro : ∀ i, i < n → ro' i = if paint col (ro x) (ro y) i = paint col (ro x) (ro y) r then r else ro i) (v : Option Nat × Option Nat) (i : Nat) (hi : i < n) :
    kup kn r v (ro' i) = if col i = col x ∨ col i = col y then v else kn (ro i) := by
  have cx := (h.rt x hx).2
  have cy := (h.rt y hy).2
  have hp : paint col (ro x) (ro y) i = paint col (ro x) (ro y) r ↔ (col i = col x ∨ col i = col y) := by
    rw [paint_eq, cx, cy]
    rw [cx, cy] at hrc
    constructor
    · rintro (e | ⟨e, _⟩)
      · exact hrc.imp (fun f => e.trans f) fun f => e.trans f
      · exact e
    · intro e
      exact .inr ⟨e, hrc⟩
  rw [hro i hi]
  by_cases hc : col i = col x ∨ col i = col y
  · rw [if_pos (hp.2 hc), if_pos hc]
    simp [kup]
  · rw [if_neg (fun e => hc (hp.1 e)), if_neg hc]
    have hne : ro i ≠ r := fun e => hc (by
      have := (h.rt i hi).2
      rw [e] at this
      rw [← this, ← cx, ← cy]
      exact hrc)
    simp [kup, hne]
theorem Js.join (h : Js G n col ro kn E (T ++ [(x, y)])) (hr : r < n) (hrc : col r = col (ro x) ∨ col r = col (ro y))
    (hro : ∀ i, i < n → ro' i = if paint col (ro x) (ro y) i = paint col (ro x) (ro y) r then r else ro i) (hJ : Jn G (paint col (ro x) (ro y)) E V) :
    Js G n (paint col (ro x) (ro y)) ro' (kup kn r ((kn (ro x)).1.or (kn (ro y)).1, ml G (kn (ro x)).2 (kn (ro y)).2)) E V := by
  obtain ⟨hx, hy⟩ := h.pair
  have cx := (h.rt x hx).2
  have cy := (h.rt y hy).2
  have hlen := h.len
  have hk := fun v i hi => roots_join h hx hy hr hrc hro v i hi
  have hpe : ∀ i j, paint col (ro x) (ro y) i = paint col (ro x) (ro y) j ↔ (col i = col j ∨ (col i = col x ∨ col i = col y) ∧ (col j = col x ∨ col j = col y)) := fun i j => by rw [paint_eq, cx, cy]
  refine ⟨hJ, hlen, ?_, ?_, fun i hi => ?_, fun i j hi hj e => ?_⟩
  · refine (h.md.join (d := paint col (ro x) (ro y)) (a := x) (b := y) (by omega) (by omega) hpe).congr fun i hi => ?_
    rw [hk _ i (by omega)]
    split <;> rfl
  · refine ⟨fun i l hi hl => ?_, fun i v p hi hl hv hp => ?_⟩
    · rw [hk _ i hi] at hl
      by_cases hc : col i = col x ∨ col i = col y
      · rw [if_pos hc] at hl
        dsimp only at hl
        have key : ∀ l, ((kn (ro x)).2 = some l ∨ (kn (ro y)).2 = some l) → l < n ∧ (∃ p, G[l]? = some p ∧ p.1 = 1) ∧ paint col (ro x) (ro y) l = paint col (ro x) (ro y) i := by
          rintro l (e | e)
          · obtain ⟨g1, g2, g3, _⟩ := h.le.is x l hx e
            exact ⟨g1, g2, (hpe _ _).2 (.inr ⟨.inl g3, hc⟩)⟩
          · obtain ⟨g1, g2, g3, _⟩ := h.le.is y l hy e
            exact ⟨g1, g2, (hpe _ _).2 (.inr ⟨.inr g3, hc⟩)⟩
        have hmin : ∀ v p, G[v]? = some p → p.1 = 1 → paint col (ro x) (ro y) v = paint col (ro x) (ro y) i → nmG G l ≤ p.2.1 := by
          intro v p hv hp hvi
          have hvc : col v = col x ∨ col v = col y := by
            rcases (hpe _ _).1 hvi with e | ⟨e, _⟩
            · rw [e]; exact hc
            · exact e
          cases hlx : (kn (ro x)).2 with
          | none =>
            rw [hlx] at hl
            have hl2 : (kn (ro y)).2 = some l := by
              cases hly : (kn (ro y)).2 <;> (rw [hly] at hl; exact hl)
            rcases hvc with e | e
            · exact absurd e (h.le.no x v p hx hlx hv hp)
            · exact (h.le.is y l hy hl2).2.2.2 v p hv hp e
          | some lx =>
            cases hly : (kn (ro y)).2 with
            | none =>
              rw [hlx, hly] at hl
              have hl2 : (kn (ro x)).2 = some l := hlx.trans hl
              rcases hvc with e | e
              · exact (h.le.is x l hx hl2).2.2.2 v p hv hp e
              · exact absurd e (h.le.no y v p hy hly hv hp)
            | some ly =>
              rw [hlx, hly] at hl
              have hl2 : (if nmG G lx < nmG G ly then lx else ly) = l := Option.some.inj hl
              rcases hvc with e | e
              · have := (h.le.is x lx hx hlx).2.2.2 v p hv hp e
                rw [← hl2]
                split <;> omega
              · have := (h.le.is y ly hy hly).2.2.2 v p hv hp e
                rw [← hl2]
                split <;> omega
        have hor : (kn (ro x)).2 = some l ∨ (kn (ro y)).2 = some l := by
          cases hlx : (kn (ro x)).2 with
          | none =>
            rw [hlx] at hl
            right
            cases hly : (kn (ro y)).2 <;> (rw [hly] at hl; exact hl)
          | some lx =>
            cases hly : (kn (ro y)).2 with
            | none => rw [hlx, hly] at hl; exact .inl hl
            | some ly =>
              rw [hlx, hly] at hl
              have hl2 : (if nmG G lx < nmG G ly then lx else ly) = l := Option.some.inj hl
              rw [← hl2]
              split
              · exact .inl rfl
              · exact .inr rfl
        obtain ⟨k1, k2, k3⟩ := key l hor
        exact ⟨k1, k2, k3, hmin⟩
      · rw [if_neg hc] at hl
        obtain ⟨g1, g2, g3, g4⟩ := h.le.is i l hi hl
        refine ⟨g1, g2, (hpe _ _).2 (.inl g3), fun v p hv hp hvi => g4 v p hv hp ?_⟩
        rcases (hpe _ _).1 hvi with e | ⟨_, e⟩
        · exact e
        · exact absurd e hc
    · rw [hk _ i hi] at hl
      intro hvi
      by_cases hc : col i = col x ∨ col i = col y
      · rw [if_pos hc] at hl
        dsimp only at hl
        have hvc : col v = col x ∨ col v = col y := by
          rcases (hpe _ _).1 hvi with e | ⟨e, _⟩
          · rw [e]; exact hc
          · exact e
        have hn : (kn (ro x)).2 = none ∧ (kn (ro y)).2 = none := by
          cases hlx : (kn (ro x)).2 <;> cases hly : (kn (ro y)).2 <;> rw [hlx, hly] at hl <;> first | exact ⟨rfl, rfl⟩ | cases hl
        rcases hvc with e | e
        · exact h.le.no x v p hx hn.1 hv hp e
        · exact h.le.no y v p hy hn.2 hv hp e
      · rw [if_neg hc] at hl
        rcases (hpe _ _).1 hvi with e | ⟨_, e⟩
        · exact h.le.no i v p hi hl hv hp e
        · exact hc e
  · rw [hro i hi]
    split
    · exact ⟨hr, Eq.symm ‹_›⟩
    · exact ⟨(h.rt i hi).1, (hpe _ _).2 (.inl (h.rt i hi).2)⟩
  · rw [hro i hi, hro j hj, e]
    split
    · rfl
    · rename_i hne
      rcases (hpe _ _).1 e with e2 | ⟨_, e3⟩
      · exact h.un i j hi hj e2
      · exact absurd ((hpe _ _).2 (.inr ⟨e3, by rw [← cx, ← cy]; exact hrc⟩)) hne
end
end Go.Proofs.Ytbnpmeaaaecciaa
/- unify: a closure that isn't there. -/
namespace Go.Proofs.Ytbnpmeaaaecciaa
open Go.RowKit
set_option maxRecDepth 100000
theorem err_none (w : World) : Calls Try.prog 39 #[.pointer none] w fun e w' => e = .returned (.int .i64 10) ∧ w' = w := by
  go_enter Try.func39, Try.ntmps39
  go_wp2_with fail
  exact bodyPost_ret (results_tmp rfl _ _ _) rfl ⟨rfl, rfl⟩
theorem cvars_none (w : World) : Calls Try.prog 62 #[.pointer none] w fun e w' => e = .returned (.slice none 0 0) ∧ w' = w := by
  go_enter Try.func62, Try.ntmps62
  go_wp2_with fail
  exact bodyPost_ret (results_tmp rfl _ _ _) rfl ⟨rfl, rfl⟩
theorem node_none (w : World) (v : Int) : Calls Try.prog 50 #[.pointer none, .int .i64 v] w fun e w' => e = .returned (.tuple #[.int .i64 0, .bool false]) ∧ w' = w := by
  go_enter Try.func50, Try.ntmps50
  go_wp2_with fail
  exact bodyPost_ret (results_tmp2 rfl _ _ _) rfl ⟨rfl, rfl⟩
/-- A part, as it is handed about. -/
def ptV (c : Option Nat) (r : Int) : Value := .agg #[.pointer (c.map fun b => ⟨b, 0, none⟩), .int .i64 r]
theorem load_pt {w : World} {g : Nat} {c : Option Nat} {r : Int} (h0 : w.cell? ⟨g, 0, none⟩ = some (.pointer (c.map fun b => ⟨b, 0, none⟩))) (h1 : w.cell? ⟨g, 1, none⟩ = some (.int .i64 r)) : (loadVar 57 ⟨g, 0, none⟩).run Try.prog w = .ok (ptV c r) w := by
  unfold ptV
  go_simp
theorem cpart_none (w : World) (v : Int) : Calls Try.prog 20 #[.pointer none, .int .i64 v] w fun e w' => e = .returned (.tuple #[ptV none 0, .bool false]) ∧ Below w.heap.size w w' := by
  go_enter Try.func20, Try.ntmps20
  go_wp2_with fail
  refine (node_none _ v).mono ?_
  rintro e w' ⟨rfl, rfl⟩
  go_wp2_with fail
  have hx := heap_alloc_new w (.cells #[.pointer none, .int .i64 0] 57)
  exact bodyPost_ret (results_cell_tmp rfl _ _ w.heap.size (ptV none 0) rfl (load_pt (c := none) (cell_of_row _ _ 0 _ _ (0, 0) hx) (cell_of_row _ _ 1 _ _ (0, 0) hx))) rfl ⟨rfl, (Below.refl _ _).alloc (Nat.le_refl _) _⟩
theorem holds_zero (w : World) : Calls Try.prog 52 #[ptV none 0] w fun e w' => e = .returned (.bool false) ∧ Below w.heap.size w w' := by
  show Calls _ _ #[.agg #[.pointer none, .int .i64 0]] _ _
  go_enter Try.func52, Try.ntmps52
  go_wp2_with fail
  refine (err_none _).mono ?_
  rintro e w' ⟨rfl, rfl⟩
  go_wp2_with fail
  exact bodyPost_ret (results_tmp rfl _ _ _) rfl ⟨rfl, (Below.refl _ _).alloc (Nat.le_refl _) _⟩
theorem kind_zero (w : World) : Calls Try.prog 23 #[ptV none 0] w fun e w' => e = .returned (.int .i64 0) ∧ Below w.heap.size w w' := by
  show Calls _ _ #[.agg #[.pointer none, .int .i64 0]] _ _
  go_enter Try.func23, Try.ntmps23
  go_wp2_with fail
  refine (show Calls _ _ #[.agg #[.pointer none, .int .i64 0]] _ _ from holds_zero _).mono ?_
  rintro e w' ⟨rfl, hb⟩
  go_wp2_with fail
  exact bodyPost_ret (results_tmp rfl _ _ _) rfl ⟨rfl, ((Below.refl _ w).alloc (Nat.le_refl _) _).trans (hb.mono (by simp))⟩
theorem ckind_none (w : World) (v : Int) : Calls Try.prog 36 #[.pointer none, .int .i64 v] w fun e w' => e = .returned (.int .i64 0) ∧ Below w.heap.size w w' := by
  go_enter Try.func36, Try.ntmps36
  go_wp2_with fail
  refine (cpart_none _ v).mono ?_
  rintro e w' ⟨rfl, hb⟩
  have HB := Lib.hid hb
  clear hb
  unfold ptV
  go_wp2_with fail
  refine (show Calls _ _ #[.agg #[.pointer none, .int .i64 0]] _ _ from kind_zero _).mono ?_
  rintro e w2 ⟨rfl, hb2⟩
  have HB2 := Lib.hid hb2
  clear hb2
  go_wp2_with fail
  exact bodyPost_ret (results_tmp rfl _ _ _) rfl ⟨rfl, (HB.out.alloc HB.out.size _).trans (HB2.out.mono (by have := HB.out.size; simp; omega))⟩
theorem same_none (w : World) (a b : Int) : Calls Try.prog 22 #[.pointer none, .int .i64 a, .int .i64 b] w fun e w' => e = .returned (.bool false) ∧ Below w.heap.size w w' := by
  go_enter Try.func22, Try.ntmps22
  go_wp2_with fail
  refine (cpart_none _ a).mono ?_
  rintro e w' ⟨rfl, hb⟩
  have HB := Lib.hid hb
  clear hb
  unfold ptV
  go_wp2_with fail
  refine (cpart_none _ b).mono ?_
  rintro e w2 ⟨rfl, hb2⟩
  have HB2 := Lib.hid hb2
  clear hb2
  unfold ptV
  go_wp2_with fail
  have hB2 : Below w.heap.size w w2 := (HB.out.alloc HB.out.size _).trans (HB2.out.mono (by have := HB.out.size; simp; omega))
  exact bodyPost_ret (results_tmp rfl _ _ _) rfl ⟨rfl, hB2.alloc hB2.size _⟩
theorem cparts_none (w : World) (v : Int) : Calls Try.prog 18 #[.pointer none, .int .i64 v] w fun e w' => e = .returned (.tuple #[.slice none 0 0, .bool false]) ∧ Below w.heap.size w w' := by
  go_enter Try.func18, Try.ntmps18
  go_wp2_with fail
  refine (cpart_none _ v).mono ?_
  rintro e w' ⟨rfl, hb⟩
  have HB := Lib.hid hb
  clear hb
  unfold ptV
  go_wp2_with fail
  refine (show Calls _ _ #[.agg #[.pointer none, .int .i64 0]] _ _ from kind_zero _).mono ?_
  rintro e w2 ⟨rfl, hb2⟩
  have HB2 := Lib.hid hb2
  clear hb2
  go_wp2_with fail
  exact bodyPost_ret (results_tmp2 rfl _ _ _) rfl ⟨rfl, (HB.out.alloc HB.out.size _).trans (HB2.out.mono (by have := HB.out.size; simp; omega))⟩
theorem equate_none (w : World) (k n k' n' : Int) (u u' : Sl) : Calls Try.prog 12 #[.pointer none, tyVal k n (slv u), tyVal k' n' (slv u')] w fun e w' => e = .returned (.int .i64 10) ∧ Below w.heap.size w w' := by
  obtain ⟨u1, u2, u3⟩ := u
  obtain ⟨v1, v2, v3⟩ := u'
  dsimp only [tyVal, slv]
  go_enter Try.func12, Try.ntmps12
  go_wp2_with fail
  refine (err_none _).mono ?_
  rintro e w' ⟨rfl, rfl⟩
  go_wp2_with fail
  exact bodyPost_ret (results_tmp rfl _ _ _) rfl ⟨rfl, by first | exact Below.refl _ _ | exact (Below.refl _ _).alloc (Nat.le_refl _) _ | exact ((Below.refl _ _).alloc (Nat.le_refl _) _).alloc (by simp) _⟩
end Go.Proofs.Ytbnpmeaaaecciaa
/- unify: what a closure tells. -/
namespace Go.Proofs.Ytbnpmeaaaecciaa
open Go.RowKit
open Un (Else StM rowI UFo own_else dg swp wp_world paint)
set_option maxRecDepth 100000
section
variable {O T : Nat → Prop} {w w' : World} {cb : Nat} {A : Adr} {st : Int} {cl : Bool} {n : Nat} {G : List Gn} {kn : Kn} {nx col ro col' ro' : Nat → Nat} {fs fs' : Int}
/-- What Err says. -/
def errN (cl : Bool) : Int := if cl then 7 else 0
theorem err_cl (h : ClM O w cb A st cl n G kn nx col ro fs) : Calls Try.prog 39 #[.pointer (some ⟨cb, 0, none⟩)] w fun e w' => e = .returned (.int .i64 (errN cl)) ∧ w' = w := by
  obtain ⟨hl, hz, c0, c1, c2, c6, c7⟩ := h.cells
  clear h hz c0 c2 c6 c7
  cases cl with
  | true =>
    go_enter Try.func39, Try.ntmps39
    go_wp2_with fail
    exact bodyPost_ret (results_tmp rfl _ _ _) rfl ⟨rfl, rfl⟩
  | false =>
    go_enter Try.func39, Try.ntmps39
    go_wp2_with fail
    exact bodyPost_ret (results_tmp rfl _ _ _) rfl ⟨rfl, rfl⟩
theorem node_cl (h : ClM O w cb A st cl n G kn nx col ro fs) (v : Int) (hv : (Lit.int .i64 v).wf = true) : Calls Try.prog 50 #[.pointer (some ⟨cb, 0, none⟩), .int .i64 v] w fun e w' => e = .returned (.tuple #[.int .i64 ((gvar G v).getD 0 : Nat), .bool (gvar G v).isSome]) ∧ Below w.heap.size w w' := by
  obtain ⟨hl, hz, c0, c1, c2, c6, c7⟩ := h.cells
  have HV := var_graph w 0 A.g A.mb A.V A.L G h.gr v hv
  obtain ⟨z, hz'⟩ : ∃ z : Nat, (gvar G v).getD 0 = z := ⟨_, rfl⟩
  obtain ⟨b, hb⟩ : ∃ b, (gvar G v).isSome = b := ⟨_, rfl⟩
  rw [hz', hb] at HV ⊢
  clear h hz c0 c1 c6 c7 hz' hb
  go_enter Try.func50, Try.ntmps50
  go_wp2_with fail
  refine HV.mono ?_
  rintro e w' ⟨rfl, hb2⟩
  go_wp2_with fail
  exact bodyPost_ret (results_tmp2 rfl _ _ _) rfl ⟨rfl, hb2⟩
/-- A node as a part: its class's root. -/
theorem part_cl (h : ClM O w cb A st cl n G kn nx col ro fs) (hst : 0 ≤ fs ∧ fs ≤ 10000000000000) (i : Nat) (hi : i < n) : Calls Try.prog 51 #[.pointer (some ⟨cb, 0, none⟩), .int .i64 (i : Nat)] w fun e w' => ∃ k : Nat, e = .returned (ptV (some cb) (ro i : Nat)) ∧ k ≤ dg n ∧ ClM O w' cb A st cl n G kn nx col ro (fs + k) ∧ Else A.S w w' := by
  have hb0 : Below w.heap.size w (w.alloc (.cells #[.pointer none, .int .i64 0] 57)) := (Below.refl _ _).alloc (Nat.le_refl _) _
  have h1 := h.below hb0
  have HR := Un.root_st (h1.stm (by omega)) (by omega) i hi
  obtain ⟨hl, hz, c0, c1, c2, c6, c7⟩ := h1.cells
  have HH := Lib.hid (And.intro h h1)
  clear h h1 hz c0 c1 c2 c6 c7 hb0
  go_enter Try.func51, Try.ntmps51
  go_wp2_with fail
  refine HR.mono ?_
  rintro e w2 ⟨k, rfl, hk, hs, he⟩
  have hgS : ¬ A.S w.heap.size := fun hx => Nat.lt_irrefl _ (HH.out.1.sb _ hx)
  have hx2 := (he.block w.heap.size (by simp) hgS).trans (heap_alloc_new w (.cells #[.pointer none, .int .i64 0] 57))
  have hxl := (Array.getElem?_eq_some_iff.1 hx2).1
  have d0 : w2.cell? ⟨w.heap.size, 0, none⟩ = some (.pointer none) := cell_of_row w2 _ 0 _ _ (0, 0) hx2
  have d1 : w2.cell? ⟨w.heap.size, 1, none⟩ = some (.int .i64 0) := cell_of_row w2 _ 1 _ _ (0, 0) hx2
  have z0 : w2.frozen? ⟨w.heap.size, 0, none⟩ = false := by simp [World.frozen?, hx2]
  have z1 : w2.frozen? ⟨w.heap.size, 1, none⟩ = false := by simp [World.frozen?, hx2]
  have HS := Lib.hid (And.intro hk (And.intro hs (And.intro he hx2)))
  clear hk hs he hx2 HR hgS
  go_wp2_with fail
  obtain ⟨hk, hs, he, hx2⟩ := HS.out
  have hC2 := HH.out.2.turn he hs
  have hE : Else (fun k => k = w.heap.size) w2 ((w2.setCell ⟨w.heap.size, 0, none⟩ (.pointer (some ⟨cb, 0, none⟩))).setCell ⟨w.heap.size, 1, none⟩ (.int .i64 (ro i : Nat))) := (Un.Else.set (S := fun k => k = w.heap.size) w2 (p := ⟨w.heap.size, 0, none⟩) rfl _).trans (Un.Else.set (S := fun k => k = w.heap.size) _ (p := ⟨w.heap.size, 1, none⟩) rfl _)
  have hx4 := heap_setCell_same _ w.heap.size 1 _ _ (.int .i64 (ro i : Nat)) (heap_setCell_same w2 w.heap.size 0 _ _ (.pointer (some ⟨cb, 0, none⟩)) hx2)
  refine bodyPost_ret (results_box rfl _ _ w.heap.size (ptV (some cb) (ro i : Nat)) rfl (load_pt (c := some cb) (cell_of_row _ _ 0 _ _ (0, 0) hx4) (cell_of_row _ _ 1 _ _ (0, 0) hx4))) rfl ⟨k, rfl, hk, hC2.aside hE fun j hj e => by have := HH.out.1.lt hj; omega, ?_⟩
  exact (((Else.of_below (S := fun k => A.S k ∨ k = w.heap.size) ((Below.refl _ w).alloc (Nat.le_refl _) _)).trans (he.mono fun k hk => .inl hk)).trans (hE.mono fun k hk => .inr hk)).old fun k hk => hk.imp id fun e => by omega
/-- A part, stored into a box of one's own. -/
theorem pt_store {w2 : World} {g : Nat} {x y : Value} (hx : w2.heap[g]? = some (Obj.cells #[x, y] 57)) (c : Option Nat) (r : Int) :
    ((w2.setCell ⟨g, 0, none⟩ (.pointer (c.map fun b => ⟨b, 0, none⟩))).setCell ⟨g, 1, none⟩ (.int .i64 r)).heap[g]? = some (Obj.cells #[.pointer (c.map fun b => ⟨b, 0, none⟩), .int .i64 r] 57) ∧ Else (fun k => k = g) w2 ((w2.setCell ⟨g, 0, none⟩ (.pointer (c.map fun b => ⟨b, 0, none⟩))).setCell ⟨g, 1, none⟩ (.int .i64 r)) :=
  ⟨heap_setCell_same _ g 1 _ _ (.int .i64 r) (heap_setCell_same w2 g 0 _ _ _ hx), (Un.Else.set (S := fun k => k = g) w2 (p := ⟨g, 0, none⟩) rfl _).trans (Un.Else.set (S := fun k => k = g) _ (p := ⟨g, 1, none⟩) rfl _)⟩
theorem pt_load {w2 : World} {g : Nat} {c : Option Nat} {r : Int} (hx : w2.heap[g]? = some (Obj.cells #[.pointer (c.map fun b => ⟨b, 0, none⟩), .int .i64 r] 57)) : (loadVar 57 ⟨g, 0, none⟩).run Try.prog w2 = .ok (ptV c r) w2 :=
  load_pt (cell_of_row _ _ 0 _ _ (0, 0) hx) (cell_of_row _ _ 1 _ _ (0, 0) hx)
theorem pt_fin {w2 w4 : World} {g : Nat} (h : ClM O w cb A st cl n G kn nx col ro fs) (h2 : ClM O w2 cb A st cl n G kn nx col ro fs') (hE : Else (fun k => A.S k ∨ w.heap.size ≤ k) w w2) (hE4 : Else (fun k => k = g) w2 w4) (hg : w.heap.size ≤ g) : ClM O w4 cb A st cl n G kn nx col ro fs' ∧ Else A.S w w4 :=
  ⟨h2.aside hE4 fun j hj e => by have := h.lt hj; omega, (hE.trans (hE4.mono fun k hk => .inr (by omega))).old fun k hk => by rcases hk with hk | hk; exact .inl hk; exact .inr hk⟩
/-- What a variable's class stands for, as a part. -/
theorem cpart_cl (h : ClM O w cb A st cl n G kn nx col ro fs) (hst : 0 ≤ fs ∧ fs ≤ 10000000000000) (v : Int) (hv : (Lit.int .i64 v).wf = true) (hn : ∀ i, gvar G v = some i → i < n) :
    Calls Try.prog 20 #[.pointer (some ⟨cb, 0, none⟩), .int .i64 v] w fun e w' => ∃ k : Nat, e = .returned (match gvar G v with | some i => .tuple #[ptV (some cb) (ro i : Nat), .bool true] | none => .tuple #[ptV none 0, .bool false]) ∧ k ≤ dg n ∧ ClM O w' cb A st cl n G kn nx col ro (fs + k) ∧ Else A.S w w' := by
  have hb0 : Below w.heap.size w (w.alloc (.cells #[.pointer none, .int .i64 0] 57)) := (Below.refl _ _).alloc (Nat.le_refl _) _
  have h1 := h.below hb0
  have HV := node_cl h1 v hv
  have hx := heap_alloc_new w (.cells #[.pointer none, .int .i64 0] 57)
  have HH := Lib.hid (And.intro h (And.intro h1 hx))
  clear h h1 hb0 hx
  cases hg : gvar G v with
  | none =>
    rw [hg] at HV
    clear hg
    go_enter Try.func20, Try.ntmps20
    go_wp2_with fail
    refine HV.mono ?_
    rintro e w2 ⟨rfl, hb⟩
    have hx2 := (hb.block _ (by simp)).trans HH.out.2.2
    have d0 : w2.cell? ⟨w.heap.size, 0, none⟩ = some (.pointer none) := cell_of_row w2 _ 0 _ _ (0, 0) hx2
    have d1 : w2.cell? ⟨w.heap.size, 1, none⟩ = some (.int .i64 0) := cell_of_row w2 _ 1 _ _ (0, 0) hx2
    have z0 : w2.frozen? ⟨w.heap.size, 0, none⟩ = false := by simp [World.frozen?, hx2]
    have z1 : w2.frozen? ⟨w.heap.size, 1, none⟩ = false := by simp [World.frozen?, hx2]
    have HB := Lib.hid (And.intro hb hx2)
    clear hb hx2 HV
    go_wp2_with fail
    obtain ⟨hb, hx2⟩ := HB.out
    obtain ⟨hx4, hE4⟩ := pt_store hx2 none 0
    obtain ⟨r1, r2⟩ := pt_fin HH.out.1 (HH.out.2.1.below hb) (((Else.of_below (S := fun k => A.S k ∨ w.heap.size ≤ k) ((Below.refl _ w).alloc (Nat.le_refl _) _)).trans (Else.of_below hb))) hE4 (Nat.le_refl _)
    exact bodyPost_ret (results_cell_tmp rfl _ _ w.heap.size (ptV none 0) rfl (pt_load (c := none) hx4)) rfl ⟨0, rfl, Nat.zero_le _, by simpa using r1, r2⟩
  | some i =>
    rw [hg] at HV
    have hi := hn i hg
    clear hg
    go_enter Try.func20, Try.ntmps20
    go_wp2_with fail
    refine HV.mono ?_
    rintro e w2 ⟨rfl, hb⟩
    have HP := part_cl (HH.out.2.1.below hb) hst i hi
    have hx2 := (hb.block _ (by simp)).trans HH.out.2.2
    have HB := Lib.hid (And.intro hb hx2)
    clear hb hx2 HV
    go_wp2_with fail
    refine HP.mono ?_
    rintro e w3 ⟨k, rfl, hk, hC, hE⟩
    have hg : ¬ A.S w.heap.size := fun hx => Nat.lt_irrefl _ (HH.out.1.sb _ hx)
    have hx3 := (hE.block w.heap.size (Array.getElem?_eq_some_iff.1 HB.out.2).1 hg).trans HB.out.2
    have d0 : w3.cell? ⟨w.heap.size, 0, none⟩ = some (.pointer none) := cell_of_row w3 _ 0 _ _ (0, 0) hx3
    have d1 : w3.cell? ⟨w.heap.size, 1, none⟩ = some (.int .i64 0) := cell_of_row w3 _ 1 _ _ (0, 0) hx3
    have z0 : w3.frozen? ⟨w.heap.size, 0, none⟩ = false := by simp [World.frozen?, hx3]
    have z1 : w3.frozen? ⟨w.heap.size, 1, none⟩ = false := by simp [World.frozen?, hx3]
    have HK := Lib.hid (And.intro hk (And.intro hC (And.intro hE hx3)))
    clear hk hC hE hx3 HP hg
    unfold ptV
    go_wp2_with fail
    obtain ⟨hk, hC, hE, hx3⟩ := HK.out
    obtain ⟨hx4, hE4⟩ := pt_store hx3 (some cb) (ro i : Nat)
    obtain ⟨r1, r2⟩ := pt_fin HH.out.1 hC ((((Else.of_below (S := fun k => A.S k ∨ w.heap.size ≤ k) ((Below.refl _ w).alloc (Nat.le_refl _) _)).trans (Else.of_below HB.out.1))).trans (hE.mono fun k hk => .inl hk)) hE4 (Nat.le_refl _)
    exact bodyPost_ret (results_cell_tmp rfl _ _ w.heap.size (ptV (some cb) (ro i : Nat)) rfl (pt_load (c := some cb) hx4)) rfl ⟨k, rfl, hk, r1, r2⟩
end
end Go.Proofs.Ytbnpmeaaaecciaa
/- unify: a part's kind, a variable's. -/
namespace Go.Proofs.Ytbnpmeaaaecciaa
open Go.RowKit
open Un (Else StM rowI UFo own_else dg swp wp_world paint)
set_option maxRecDepth 100000
section
variable {O T : Nat → Prop} {w w' : World} {cb : Nat} {A : Adr} {st : Int} {cl : Bool} {n : Nat} {G : List Gn} {kn : Kn} {nx col ro col' ro' : Nat → Nat} {fs fs' : Int}
/-- A node's kind, or none's. -/
def kindO (G : List Gn) : Option Nat → Int
  | some i => ((G[i]?).map fun p => p.1).getD 0
  | none => 0
theorem kind_oi (hG : GrM 0 w A.g A.V A.mb A.L G) (o : Option Nat) : Calls Try.prog 53 #[.pointer (some ⟨A.g, 0, none⟩), .int .i64 (oi o)] w fun e w' => e = .returned (.int .i64 (kindO G o)) ∧ Below w.heap.size w w' := by
  cases o with
  | none => exact kind_out w 0 A.g A.mb A.V A.L G hG (-1) (by omega)
  | some i =>
    by_cases hi : i < G.length
    · have := kind_in w 0 A.g A.mb A.V A.L G hG i hi
      simp only [kindO, List.getElem?_eq_getElem hi, Option.map_some, Option.getD_some]
      exact this
    · have := kind_out w 0 A.g A.mb A.V A.L G hG (i : Int) (by omega)
      simp only [kindO, List.getElem?_eq_none (Nat.le_of_not_lt hi), Option.map_none, Option.getD_none]
      exact this
theorem holds_cl (h : ClM O w cb A st false n G kn nx col ro fs) (r : Int) : Calls Try.prog 52 #[ptV (some cb) r] w fun e w' => e = .returned (.bool true) ∧ Below w.heap.size w w' := by
  have hb0 : Below w.heap.size w (w.alloc (.cells #[.pointer (some ⟨cb, 0, none⟩), .int .i64 r] 57)) := (Below.refl _ _).alloc (Nat.le_refl _) _
  have HE := err_cl (h.below hb0)
  show Calls _ _ #[.agg #[.pointer (some ⟨cb, 0, none⟩), .int .i64 r]] _ _
  clear h hb0
  go_enter Try.func52, Try.ntmps52
  go_wp2_with fail
  refine HE.mono ?_
  rintro e w' ⟨rfl, rfl⟩
  go_wp2_with fail
  exact bodyPost_ret (results_tmp rfl _ _ _) rfl ⟨rfl, (Below.refl _ _).alloc (Nat.le_refl _) _⟩
theorem pkind_cl (h : ClM O w cb A st false n G kn nx col ro fs) (r : Nat) (hr : r < n) : Calls Try.prog 23 #[ptV (some cb) (r : Nat)] w fun e w' => e = .returned (.int .i64 (kindO G (kn r).1)) ∧ Below w.heap.size w w' := by
  have hb0 : Below w.heap.size w (w.alloc (.cells #[.pointer (some ⟨cb, 0, none⟩), .int .i64 (r : Nat)] 57)) := (Below.refl _ _).alloc (Nat.le_refl _) _
  have h1 := h.below hb0
  have HO := holds_cl h1 (r : Nat)
  have hx := heap_alloc_new w (.cells #[.pointer (some ⟨cb, 0, none⟩), .int .i64 (r : Nat)] 57)
  have HH := Lib.hid (And.intro h1 hx)
  show Calls _ _ #[.agg #[.pointer (some ⟨cb, 0, none⟩), .int .i64 (r : Nat)]] _ _
  clear h h1 hb0 hx
  go_enter Try.func23, Try.ntmps23
  go_wp2_with fail
  refine (show Calls _ _ #[.agg #[.pointer (some ⟨cb, 0, none⟩), .int .i64 (r : Nat)]] _ _ from HO).mono ?_
  rintro e w2 ⟨rfl, hb⟩
  have hC := HH.out.1.below hb
  have hx2 := (hb.block _ (by simp)).trans HH.out.2
  have d0 : w2.cell? ⟨w.heap.size, 0, none⟩ = some (.pointer (some ⟨cb, 0, none⟩)) := cell_of_row w2 _ 0 _ _ (0, 0) hx2
  have d1 : w2.cell? ⟨w.heap.size, 1, none⟩ = some (.int .i64 (r : Nat)) := cell_of_row w2 _ 1 _ _ (0, 0) hx2
  obtain ⟨hl, hz, c0, c1, c2, c6, c7⟩ := hC.cells
  obtain ⟨kb, cK, hK, _, _⟩ := Un.own_shape hC.kr (by omega)
  have hrow := hC.kr
  rw [hK] at c6 hrow
  have hlen := knR_len n kn
  have a0 : w2.cell? ⟨kb, r * 2, none⟩ = some (.int .i64 (oi (kn r).1)) := (hrow.cellAt (r * 2) (by omega)).trans (knR_get hr).1
  have HKD := kind_oi (w := w2.drew) (A := A) (hC.below (Below.refl _ w2).drew).gr (kn r).1
  have HB := Lib.hid hb
  clear hb hC hx2 hz c0 c1 c7 hK hrow hlen HO
  go_wp2_with fail
  obtain ⟨km, hkm⟩ : ∃ z, oi (kn r).1 = z := ⟨_, rfl⟩
  rw [hkm] at a0 HKD
  obtain ⟨S0, hSof, hSto⟩ : ∃ S0 : World → Prop, (∀ W : World, Below w2.heap.size w2 W → S0 W) ∧ (∀ W, S0 W → W.cell? ⟨w.heap.size, 0, none⟩ = some (.pointer (some ⟨cb, 0, none⟩)) ∧ W.cell? ⟨w.heap.size, 1, none⟩ = some (.int .i64 (r : Nat)) ∧ W.cell? ⟨cb, 2, none⟩ = some (.pointer (some ⟨A.g, 0, none⟩)) ∧ W.cell? ⟨cb, 6, none⟩ = some (.slice (some ⟨kb, 0, none⟩) n cK) ∧ W.cell? ⟨kb, r * 2, none⟩ = some (.int .i64 km)) :=
    ⟨fun W => Below w2.heap.size w2 W, fun _ h => h, fun W hb => ⟨(hb.cell (World.block_lt_of_cell? _ _ d0)).trans d0, (hb.cell (World.block_lt_of_cell? _ _ d1)).trans d1, (hb.cell (World.block_lt_of_cell? _ _ c2)).trans c2, (hb.cell (World.block_lt_of_cell? _ _ c6)).trans c6, (hb.cell (World.block_lt_of_cell? _ _ a0)).trans a0⟩⟩
  have hS : S0 w2.drew := hSof _ (Below.refl _ _).drew
  have EX := Lib.hid hSto
  have HSOF := Lib.hid hSof
  have HKH := Lib.hid HKD
  clear hSof hSto HKD d0 d1 c2 c6 a0
  refine wp_region_held (S := S0) (by kernel_rfl) ?_
  change wpAnyH _ _ _ _ _ 17 (List.replicate 17 false).toArray _ w2.drew
  simp only [List.replicate_succ, List.replicate_zero]
  refine any_take (i := 0) (some 6) (.pointer (some ⟨w.heap.size, 0, none⟩)) rfl (by rfl) (by kernel_rfl) (by kernel_rfl) (by kernel_rfl) (fun _ _ _ h => h) (Or.inl ⟨by kernel_rfl, (fun W hw => by clear hw; go_simp)⟩) hS ?_
  simp only [Act.put, List.setIfInBounds_toArray, List.set_cons_zero, List.set_cons_succ]
  refine any_take (i := 1) (some 7) (.pointer (some ⟨cb, 0, none⟩)) rfl (by rfl) (by kernel_rfl) (by kernel_rfl) (by kernel_rfl) (fun _ _ _ h => h) (Or.inl ⟨by kernel_rfl, (fun W hw => by obtain ⟨n0, n1, n2, n3, n4⟩ := EX.out W hw; clear hw; go_simp)⟩) hS ?_
  simp only [Act.put, List.setIfInBounds_toArray, List.set_cons_zero, List.set_cons_succ]
  refine any_take (i := 2) (some 8) (.pointer (some ⟨cb, 0, none⟩)) rfl (by rfl) (by kernel_rfl) (by kernel_rfl) (by kernel_rfl) (fun _ _ _ h => h) (Or.inl ⟨by kernel_rfl, (fun W hw => by clear hw; go_simp)⟩) hS ?_
  simp only [Act.put, List.setIfInBounds_toArray, List.set_cons_zero, List.set_cons_succ]
  refine any_take (i := 3) (some 9) (.pointer (some ⟨cb, 2, none⟩)) rfl (by rfl) (by kernel_rfl) (by kernel_rfl) (by kernel_rfl) (fun _ _ _ h => h) (Or.inl ⟨by kernel_rfl, (fun W hw => by clear hw; go_simp)⟩) hS ?_
  simp only [Act.put, List.setIfInBounds_toArray, List.set_cons_zero, List.set_cons_succ]
  refine any_take (i := 4) (some 10) (.pointer (some ⟨A.g, 0, none⟩)) rfl (by rfl) (by kernel_rfl) (by kernel_rfl) (by kernel_rfl) (fun _ _ _ h => h) (Or.inl ⟨by kernel_rfl, (fun W hw => by obtain ⟨n0, n1, n2, n3, n4⟩ := EX.out W hw; clear hw; go_simp)⟩) hS ?_
  simp only [Act.put, List.setIfInBounds_toArray, List.set_cons_zero, List.set_cons_succ]
  refine any_take (i := 5) (some 11) (.pointer (some ⟨w.heap.size, 0, none⟩)) rfl (by rfl) (by kernel_rfl) (by kernel_rfl) (by kernel_rfl) (fun _ _ _ h => h) (Or.inl ⟨by kernel_rfl, (fun W hw => by clear hw; go_simp)⟩) hS ?_
  simp only [Act.put, List.setIfInBounds_toArray, List.set_cons_zero, List.set_cons_succ]
  refine any_take (i := 6) (some 12) (.pointer (some ⟨cb, 0, none⟩)) rfl (by rfl) (by kernel_rfl) (by kernel_rfl) (by kernel_rfl) (fun _ _ _ h => h) (Or.inl ⟨by kernel_rfl, (fun W hw => by obtain ⟨n0, n1, n2, n3, n4⟩ := EX.out W hw; clear hw; go_simp)⟩) hS ?_
  simp only [Act.put, List.setIfInBounds_toArray, List.set_cons_zero, List.set_cons_succ]
  refine any_take (i := 7) (some 13) (.pointer (some ⟨cb, 0, none⟩)) rfl (by rfl) (by kernel_rfl) (by kernel_rfl) (by kernel_rfl) (fun _ _ _ h => h) (Or.inl ⟨by kernel_rfl, (fun W hw => by clear hw; go_simp)⟩) hS ?_
  simp only [Act.put, List.setIfInBounds_toArray, List.set_cons_zero, List.set_cons_succ]
  refine any_take (i := 8) (some 14) (.pointer (some ⟨cb, 6, none⟩)) rfl (by rfl) (by kernel_rfl) (by kernel_rfl) (by kernel_rfl) (fun _ _ _ h => h) (Or.inl ⟨by kernel_rfl, (fun W hw => by clear hw; go_simp)⟩) hS ?_
  simp only [Act.put, List.setIfInBounds_toArray, List.set_cons_zero, List.set_cons_succ]
  refine any_take (i := 9) (some 15) (.slice (some ⟨kb, 0, none⟩) n cK) rfl (by rfl) (by kernel_rfl) (by kernel_rfl) (by kernel_rfl) (fun _ _ _ h => h) (Or.inl ⟨by kernel_rfl, (fun W hw => by obtain ⟨n0, n1, n2, n3, n4⟩ := EX.out W hw; clear hw; go_simp)⟩) hS ?_
  simp only [Act.put, List.setIfInBounds_toArray, List.set_cons_zero, List.set_cons_succ]
  refine any_take (i := 10) (some 16) (.pointer (some ⟨w.heap.size, 1, none⟩)) rfl (by rfl) (by kernel_rfl) (by kernel_rfl) (by kernel_rfl) (fun _ _ _ h => h) (Or.inl ⟨by kernel_rfl, (fun W hw => by clear hw; go_simp)⟩) hS ?_
  simp only [Act.put, List.setIfInBounds_toArray, List.set_cons_zero, List.set_cons_succ]
  refine any_take (i := 11) (some 17) (.int .i64 (r : Nat)) rfl (by rfl) (by kernel_rfl) (by kernel_rfl) (by kernel_rfl) (fun _ _ _ h => h) (Or.inl ⟨by kernel_rfl, (fun W hw => by obtain ⟨n0, n1, n2, n3, n4⟩ := EX.out W hw; clear hw; go_simp)⟩) hS ?_
  simp only [Act.put, List.setIfInBounds_toArray, List.set_cons_zero, List.set_cons_succ]
  refine any_take (i := 12) (some 18) (.pointer (some ⟨kb, r * 2, none⟩)) rfl (by rfl) (by kernel_rfl) (by kernel_rfl) (by kernel_rfl) (fun _ _ _ h => h) (Or.inl ⟨by kernel_rfl, (fun W hw => by clear hw; go_simp)⟩) hS ?_
  simp only [Act.put, List.setIfInBounds_toArray, List.set_cons_zero, List.set_cons_succ]
  refine any_take (i := 13) (some 19) (.pointer (some ⟨kb, r * 2, none⟩)) rfl (by rfl) (by kernel_rfl) (by kernel_rfl) (by kernel_rfl) (fun _ _ _ h => h) (Or.inl ⟨by kernel_rfl, (fun W hw => by clear hw; go_simp)⟩) hS ?_
  simp only [Act.put, List.setIfInBounds_toArray, List.set_cons_zero, List.set_cons_succ]
  refine any_take (i := 14) (some 20) (.int .i64 km) rfl (by rfl) (by kernel_rfl) (by kernel_rfl) (by kernel_rfl) (fun _ _ _ h => h) (Or.inl ⟨by kernel_rfl, (fun W hw => by obtain ⟨n0, n1, n2, n3, n4⟩ := EX.out W hw; clear hw; go_simp)⟩) hS ?_
  simp only [Act.put, List.setIfInBounds_toArray, List.set_cons_zero, List.set_cons_succ]
  refine wpAnyH_all (rs := [15]) (by kernel_rfl) (by simp) fun q hq => ?_
  obtain rfl : q = 15 := by simpa using hq
  refine ops_call (d := some 21) rfl (by rfl) (by kernel_rfl) (by go_simp) (HKH.out.mono ?_)
  rintro e w3 ⟨rfl, hb3⟩
  have hb3 : Below w2.heap.size w2 w3 := ((Below.refl _ w2).drew).trans hb3
  have hS3 := HSOF.out w3 hb3
  have HB3 := Lib.hid hb3
  clear hb3
  refine ⟨_, rfl, hS3, ?_⟩
  simp only [Act.put, List.setIfInBounds_toArray, List.set_cons_zero, List.set_cons_succ]
  refine any_take (i := 16) (some 2) (.int .i64 (kindO G (kn r).1)) rfl (by rfl) (by kernel_rfl) (by kernel_rfl) (by kernel_rfl) (fun _ _ _ h => h) (Or.inl ⟨by kernel_rfl, (fun W hw => by clear hw; go_simp)⟩) hS3 ?_
  simp only [Act.put, List.setIfInBounds_toArray, List.set_cons_zero, List.set_cons_succ]
  refine wpAnyH_done (by kernel_rfl) ?_ _
  go_wp2_with fail
  refine bodyPost_ret (results_tmp rfl _ _ _) rfl ⟨rfl, ?_⟩
  have hb2 : Below w.heap.size w w2 := ((Below.refl _ w).alloc (Nat.le_refl _) _).trans (HB.out.mono (by simp))
  exact hb2.trans (HB3.out.mono hb2.size)
end
end Go.Proofs.Ytbnpmeaaaecciaa
/- unify: a variable's kind; whether two are in one class. -/
namespace Go.Proofs.Ytbnpmeaaaecciaa
open Go.RowKit
open Un (Else StM rowI UFo own_else dg swp wp_world paint)
set_option maxRecDepth 100000
section
variable {O T : Nat → Prop} {w w' : World} {cb : Nat} {A : Adr} {st : Int} {cl : Bool} {n : Nat} {G : List Gn} {kn : Kn} {nx col ro col' ro' : Nat → Nat} {fs fs' : Int}
/-- The class's root of a variable, if there is such a one. -/
def rootV (G : List Gn) (ro : Nat → Nat) (v : Int) : Option Nat := (gvar G v).map ro
theorem cpart_rt (h : ClM O w cb A st cl n G kn nx col ro fs) (hst : 0 ≤ fs ∧ fs ≤ 10000000000000) (v : Int) (hv : (Lit.int .i64 v).wf = true) (hn : ∀ i, gvar G v = some i → i < n) :
    Calls Try.prog 20 #[.pointer (some ⟨cb, 0, none⟩), .int .i64 v] w fun e w' => ∃ k : Nat, e = .returned (.tuple #[ptV ((rootV G ro v).map fun _ => cb) (((rootV G ro v).getD 0 : Nat) : Int), .bool (rootV G ro v).isSome]) ∧ k ≤ dg n ∧ ClM O w' cb A st cl n G kn nx col ro (fs + k) ∧ Else A.S w w' := by
  refine (cpart_cl h hst v hv hn).mono ?_
  rintro e w' ⟨k, rfl, h1⟩
  refine ⟨k, ?_, h1⟩
  unfold rootV
  cases gvar G v <;> rfl
theorem ckind_cl (h : ClM O w cb A st false n G kn nx col ro fs) (hst : 0 ≤ fs ∧ fs ≤ 10000000000000) (v : Int) (hv : (Lit.int .i64 v).wf = true) (hn : ∀ i, gvar G v = some i → i < n) :
    Calls Try.prog 36 #[.pointer (some ⟨cb, 0, none⟩), .int .i64 v] w fun e w' => ∃ k : Nat, e = .returned (.int .i64 (match rootV G ro v with | some r => kindO G (kn r).1 | none => 0)) ∧ k ≤ dg n ∧ ClM O w' cb A st false n G kn nx col ro (fs + k) ∧ Else A.S w w' := by
  have HP := cpart_rt h hst v hv hn
  have HH := Lib.hid h
  have hroot : ∀ r, rootV G ro v = some r → r < n := by
    intro r hr
    unfold rootV at hr
    obtain ⟨i, hi, rfl⟩ := Option.map_eq_some_iff.1 hr
    have hin := hn i hi
    exact ((h.stm (by omega)).uf.roots hin).1
  clear h
  cases hr : rootV G ro v with
  | none =>
    rw [hr] at HP
    clear hr hroot
    simp only [ptV, Option.map_none, Option.getD_none, Option.isSome_none] at HP
    go_enter Try.func36, Try.ntmps36
    go_wp2_with fail
    refine HP.mono ?_
    rintro e w2 ⟨k, rfl, hk, hC, hE⟩
    have HF := Lib.hid (And.intro hk (And.intro hC hE))
    clear hk hC hE HP
    go_wp2_with fail
    refine (show Calls _ _ #[.agg #[.pointer none, .int .i64 0]] _ _ from kind_zero _).mono ?_
    rintro e w3 ⟨rfl, hb⟩
    have HB := Lib.hid hb
    clear hb
    go_wp2_with fail
    obtain ⟨hk, hC, hE⟩ := HF.out
    have hb2 := ((Below.refl _ w2).alloc (Nat.le_refl _) _).trans (HB.out.mono (by simp))
    exact bodyPost_ret (results_tmp rfl _ _ _) rfl ⟨k, rfl, hk, hC.below hb2, hE.trans (Else.of_below hb2)⟩
  | some r =>
    rw [hr] at HP
    have hrn := hroot r hr
    clear hr hroot
    simp only [ptV, Option.map_some, Option.getD_some, Option.isSome_some] at HP
    go_enter Try.func36, Try.ntmps36
    go_wp2_with fail
    refine HP.mono ?_
    rintro e w2 ⟨k, rfl, hk, hC, hE⟩
    have hb1 : Below w2.heap.size w2 (w2.alloc (.cells #[.pointer (some ⟨cb, 0, none⟩), .int .i64 (r : Nat)] 57)) := (Below.refl _ w2).alloc (Nat.le_refl _) _
    have HK := pkind_cl (hC.below hb1) r hrn
    have HF := Lib.hid (And.intro hk (And.intro hC (And.intro hE hb1)))
    clear hk hC hE HP hb1
    go_wp2_with fail
    refine (show Calls _ _ #[.agg #[.pointer (some ⟨cb, 0, none⟩), .int .i64 (r : Nat)]] _ _ from HK).mono ?_
    rintro e w3 ⟨rfl, hb⟩
    have HB := Lib.hid hb
    clear hb HK
    go_wp2_with fail
    obtain ⟨hk, hC, hE, hb1⟩ := HF.out
    have hb2 := hb1.trans (HB.out.mono (by simp))
    exact bodyPost_ret (results_tmp rfl _ _ _) rfl ⟨k, rfl, hk, hC.below hb2, hE.trans (Else.of_below hb2)⟩
set_option maxHeartbeats 1000000 in
theorem same_cl (h : ClM O w cb A st cl n G kn nx col ro fs) (hst : 0 ≤ fs ∧ fs ≤ 1000000000000) (hdg : dg n ≤ 21) (a b : Int) (ha : (Lit.int .i64 a).wf = true) (hb : (Lit.int .i64 b).wf = true) (hna : ∀ i, gvar G a = some i → i < n) (hnb : ∀ i, gvar G b = some i → i < n) :
    Calls Try.prog 22 #[.pointer (some ⟨cb, 0, none⟩), .int .i64 a, .int .i64 b] w fun e w' => ∃ k : Nat, e = .returned (.bool ((rootV G ro a).isSome && (rootV G ro b).isSome && rootV G ro a == rootV G ro b)) ∧ k ≤ 2 * dg n ∧ ClM O w' cb A st cl n G kn nx col ro (fs + k) ∧ Else A.S w w' := by
  have HP := cpart_rt h (by omega) a ha hna
  clear h
  rcases hra : rootV G ro a with _ | ra <;> rcases hrb : rootV G ro b with _ | rb
  all_goals
    rw [hra] at HP
    simp only [ptV, Option.map_none, Option.getD_none, Option.isSome_none, Option.map_some, Option.getD_some, Option.isSome_some] at HP
    go_enter Try.func22, Try.ntmps22
    go_wp2_with fail
    refine HP.mono ?_
    rintro e w2 ⟨k, rfl, hk, hC, hE⟩
    have HQ := fun x : Obj => cpart_rt (w := w2.alloc x) (hC.below ((Below.refl _ w2).alloc (Nat.le_refl _) _)) (show 0 ≤ fs + k ∧ fs + k ≤ 10000000000000 by omega) b hb hnb
    rw [hrb] at HQ
    simp only [ptV, Option.map_none, Option.getD_none, Option.isSome_none, Option.map_some, Option.getD_some, Option.isSome_some] at HQ
    have HSB := Lib.hid hC.sb
    have HF := Lib.hid (And.intro hk (And.intro hC hE))
    have HQH := Lib.hid HQ
    clear hk hC hE HP HQ
    go_wp2_with fail
    refine (HQH.out _).mono ?_
    rintro e w3 ⟨k2, rfl, hk2, hC2, hE2⟩
  · have HZ := Lib.hid (And.intro hk2 (And.intro hC2 hE2))
    clear hk2 hC2 hE2 HQH HSB
    go_wp2_with fail
    obtain ⟨hk, hC, hE⟩ := HF.out
    obtain ⟨hk2, hC2, hE2⟩ := HZ.out
    have hb3 := (Below.refl _ w3).alloc (Nat.le_refl _) (.cells #[.pointer none, .int .i64 0] 57)
    refine bodyPost_ret (results_tmp rfl _ _ _) rfl ⟨k + k2, rfl, by omega, by have h5 := hC2.below hb3; rwa [show fs + (k : Int) + (k2 : Int) = fs + ((k + k2 : Nat) : Int) by omega] at h5, ((hE.trans (Else.of_below ((Below.refl _ w2).alloc (Nat.le_refl _) _))).trans hE2).trans (Else.of_below hb3)⟩
  · have HZ := Lib.hid (And.intro hk2 (And.intro hC2 hE2))
    clear hk2 hC2 hE2 HQH HSB
    go_wp2_with fail
    obtain ⟨hk, hC, hE⟩ := HF.out
    obtain ⟨hk2, hC2, hE2⟩ := HZ.out
    have hb3 := (Below.refl _ w3).alloc (Nat.le_refl _) (.cells #[.pointer (some ⟨cb, 0, none⟩), .int .i64 (rb : Nat)] 57)
    refine bodyPost_ret (results_tmp rfl _ _ _) rfl ⟨k + k2, rfl, by omega, by have h5 := hC2.below hb3; rwa [show fs + (k : Int) + (k2 : Int) = fs + ((k + k2 : Nat) : Int) by omega] at h5, ((hE.trans (Else.of_below ((Below.refl _ w2).alloc (Nat.le_refl _) _))).trans hE2).trans (Else.of_below hb3)⟩
  · have HZ := Lib.hid (And.intro hk2 (And.intro hC2 hE2))
    clear hk2 hC2 hE2 HQH HSB
    go_wp2_with fail
    obtain ⟨hk, hC, hE⟩ := HF.out
    obtain ⟨hk2, hC2, hE2⟩ := HZ.out
    have hb3 := (Below.refl _ w3).alloc (Nat.le_refl _) (.cells #[.pointer none, .int .i64 0] 57)
    refine bodyPost_ret (results_tmp rfl _ _ _) rfl ⟨k + k2, rfl, by omega, by have h5 := hC2.below hb3; rwa [show fs + (k : Int) + (k2 : Int) = fs + ((k + k2 : Nat) : Int) by omega] at h5, ((hE.trans (Else.of_below ((Below.refl _ w2).alloc (Nat.le_refl _) _))).trans hE2).trans (Else.of_below hb3)⟩
  · have hx := (hE2.block w2.heap.size (by simp) fun hx => Nat.lt_irrefl _ (HSB.out _ hx)).trans (heap_alloc_new w2 _)
    have d1 : (w3.alloc (.cells #[.pointer (some ⟨cb, 0, none⟩), .int .i64 (rb : Nat)] 57)).cell? ⟨w2.heap.size, 1, none⟩ = some (.int .i64 (ra : Nat)) := cell_of_row _ _ 1 _ _ (0, 0) ((Below.heap_alloc w3 _ _ (Array.getElem?_eq_some_iff.1 hx).1).trans hx)
    clear hx
    by_cases hab : ra = rb
    · have f1 : ((ra : Int) == (rb : Int)) = true := by subst hab; simp
      have HZ := Lib.hid (And.intro hk2 (And.intro hC2 hE2))
      clear hk2 hC2 hE2 HQH HSB
      go_wp2_with fail
      obtain ⟨hk, hC, hE⟩ := HF.out
      obtain ⟨hk2, hC2, hE2⟩ := HZ.out
      have hb3 := (Below.refl _ w3).alloc (Nat.le_refl _) (.cells #[.pointer (some ⟨cb, 0, none⟩), .int .i64 (rb : Nat)] 57)
      refine bodyPost_ret (results_tmp rfl _ _ _) rfl ⟨k + k2, by simp [hab], by omega, by have h5 := hC2.below hb3; rwa [show fs + (k : Int) + (k2 : Int) = fs + ((k + k2 : Nat) : Int) by omega] at h5, ((hE.trans (Else.of_below ((Below.refl _ w2).alloc (Nat.le_refl _) _))).trans hE2).trans (Else.of_below hb3)⟩
    · have f1 : ((ra : Int) == (rb : Int)) = false := by simp; omega
      have HZ := Lib.hid (And.intro hk2 (And.intro hC2 hE2))
      clear hk2 hC2 hE2 HQH HSB
      go_wp2_with fail
      obtain ⟨hk, hC, hE⟩ := HF.out
      obtain ⟨hk2, hC2, hE2⟩ := HZ.out
      have hb3 := (Below.refl _ w3).alloc (Nat.le_refl _) (.cells #[.pointer (some ⟨cb, 0, none⟩), .int .i64 (rb : Nat)] 57)
      refine bodyPost_ret (results_tmp rfl _ _ _) rfl ⟨k + k2, by simp [hab], by omega, by have h5 := hC2.below hb3; rwa [show fs + (k : Int) + (k2 : Int) = fs + ((k + k2 : Nat) : Int) by omega] at h5, ((hE.trans (Else.of_below ((Below.refl _ w2).alloc (Nat.le_refl _) _))).trans hE2).trans (Else.of_below hb3)⟩
end
end Go.Proofs.Ytbnpmeaaaecciaa
/- An append as one step of a region that draws, by its run. Nothing here speaks of the program. -/
namespace Go.Proofs.Ytbnpmeaaaecciaa
open Go.RowKit
theorem step_app {P : Program} {ops : Array Oper} {o : Oper} {a : Act} {w : World} {K : Act → World → Prop} {Q : Exit → Act → World → Prop} {E : Prop} (hgd : o.guard = none) (s x : Operand) (t : TypeId)
    (ho : o.op = .call { callee := .builtin .append, args := #[s, x], argTypes := #[t, t] }) {vs vx v' : Value} {w' : World} (hrun : (app_ #[t, t] o.type #[vs, vx]).run P w = .ok v' w')
    (hs : a.eval s = vs) (hx : a.eval x = vx) (h : K (a.put o.dst v') w') : if Region.wanted o (yielded ops a.tmps) = true then Oper.wp P o a w K Q else E := by
  have hw : Region.wanted o (yielded ops a.tmps) = true := by simp [Region.wanted, hgd]
  rw [if_pos hw]
  have hrun2 : (Builtin.append_ #[t, t] o.type #[vs, vx]).run P w = .ok v' w' := hrun
  unfold Oper.wp
  simp [execOp, ho, resolve, invoke, builtin, hs, hx, hrun2, Result.andThen]
  exact h
end Go.Proofs.Ytbnpmeaaaecciaa
