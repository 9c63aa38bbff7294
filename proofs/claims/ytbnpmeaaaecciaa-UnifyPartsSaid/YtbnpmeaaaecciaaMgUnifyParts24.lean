/- Texts of one proof, one behind the other. -/
import Derived.Test.YtbnpmeaaaecciaaMgUnifyParts23
import Derived.Test.YtbnpmeaaaecciaaMgUnifyParts14
import Derived.Test.YtbnpmeaaaecciaaMgUnifyParts21
/- unify: a closure that doesn't clash, by what it tells; one that clashes. -/
namespace Go.Proofs.Ytbnpmeaaaecciaa
open Go.RowKit
open Un (Else StM rowI UFo own_else dg swp wp_world paint cnt Rings)
set_option maxRecDepth 100000
/-- What the kind of a variable's class is. -/
def KindIs (G : List Gn) (E : List (Nat × Nat)) (v : Int) (r : Int) : Prop :=
  match gvar G v with
  | none => r = 0
  | some i => (∃ y q, Cl G E i y ∧ G[y]? = some q ∧ q.1 ≠ 1 ∧ r = q.1) ∨ (r = 0 ∧ ∀ (y : Nat) (q : Gn), Cl G E i y → G[y]? = some q → q.1 = 1)
/-- Whether two variables are in one class. -/
def SameIs (G : List Gn) (E : List (Nat × Nat)) (a b : Int) : Prop := ∃ i j, gvar G a = some i ∧ gvar G b = some j ∧ Cl G E i j
section
variable {O T : Nat → Prop} {w w' V : World} {cb : Nat} {A : Adr} {st : Int} {cl : Bool} {n m : Nat} {G : List Gn} {kn : Kn} {nx col ro col' ro' : Nat → Nat} {fs fs' : Int} {E : List (Nat × Nat)}
theorem CsM.mono {O' : Nat → Prop} (h : CsM O w cb G E st fs m) (ho : ∀ k, O k → O' k) : CsM O' w cb G E st fs m := by
  obtain ⟨⟨A, kn, nx, col, ro, hC, h2⟩, h3⟩ := h
  exact ⟨⟨A, kn, nx, col, ro, hC.owned ho, h2⟩, h3⟩
/-- What leaves its blocks alone leaves it alone. -/
theorem CsM.keep (h : CsM O w cb G E st fs m) (he : Else T w w') (ht : ∀ k, O k → ¬ T k) : CsM O w' cb G E st fs m := by
  obtain ⟨⟨A, kn, nx, col, ro, hC, hJ, hR, hB, hm⟩, h3⟩ := h
  refine ⟨⟨A, kn, nx, col, ro, hC.keep he ht, hJ, hR, fun h0 => ?_, hm⟩, h3⟩
  have hb := hB h0
  have hO := hC.own cb (.inr (.inr (.inl rfl)))
  exact (he.block cb (Array.getElem?_eq_some_iff.1 hb).1 (ht cb hO)).trans hb
theorem CsM.below (h : CsM O w cb G E st fs m) (hb : Below w.heap.size w w') : CsM O w' cb G E st fs m := h.keep (T := fun _ => False) (Else.of_below hb) fun _ _ e => e
theorem CsM.lt (h : CsM O w cb G E st fs m) : cb < w.heap.size := by
  obtain ⟨⟨A, kn, nx, col, ro, hC, _⟩, _⟩ := h
  exact hC.lt (.inr (.inr (.inl rfl)))
theorem CsM.own (h : CsM O w cb G E st fs m) : O cb := by
  obtain ⟨⟨A, kn, nx, col, ro, hC, _⟩, _⟩ := h
  exact hC.own _ (.inr (.inr (.inl rfl)))
/-- The forest alone turned. -/
theorem CsM.turned {A : Adr} {kn : Kn} {nx col ro : Nat → Nat} (hC : ClM O w' cb A st false G.length G kn nx col ro fs') (hE : Else A.S w w') (hJ : Js G G.length col ro kn E []) (hR : Rings G.length nx (vc G col)) (hB : G.length = 0 → Bare w cb A.ob (.int .i64 st) (.bool false) (.pointer (some ⟨A.g, 0, none⟩)) A.K A.N) (hm : cnt G.length col = m) (h2 : GI G) (h3 : Gp G) : CsM O w' cb G E st fs' m := by
  refine ⟨⟨A, kn, nx, col, ro, hC, hJ, hR, fun h0 => ?_, hm⟩, h2, h3⟩
  have hb := hB h0
  rcases hC.sets with h | ⟨_, _, h, _⟩
  · exact (hE.block cb (Array.getElem?_eq_some_iff.1 hb).1 h.ncb).trans hb
  · exact h
theorem gvar_in {v : Int} : ∀ i, gvar G v = some i → i < G.length := fun _ h => gvar_lt h
theorem kind_cs (h : CsM O w cb G E st fs m) (hst : 0 ≤ fs ∧ fs ≤ 1000000000000) (v : Int) (hv : (Lit.int .i64 v).wf = true) :
    Calls Try.prog 36 #[.pointer (some ⟨cb, 0, none⟩), .int .i64 v] w fun e w' => ∃ (r : Int) (k : Nat), e = .returned (.int .i64 r) ∧ KindIs G E v r ∧ k ≤ dg G.length ∧ CsM O w' cb G E st (fs + k) m ∧ Else O w w' := by
  obtain ⟨⟨A, kn, nx, col, ro, hC, hJ, hR, hB, hm⟩, h2, h3⟩ := h
  refine (ckind_cl hC (by omega) v hv gvar_in).mono ?_
  rintro e w' ⟨k, rfl, hk, hC', hE⟩
  refine ⟨_, k, rfl, ?_, hk, CsM.turned hC' hE hJ hR hB hm h2 h3, hE.mono fun j hj => hC.own j (.inr (.inl hj))⟩
  unfold KindIs rootV
  cases hg : gvar G v with
  | none => rfl
  | some i =>
    have hi := gvar_lt hg
    dsimp only [Option.map_some]
    cases hk : (kn (ro i)).1 with
    | none => exact .inr ⟨rfl, fun y q hc hy => hJ.vars hi hk hc hy⟩
    | some z =>
      obtain ⟨p, hp, p1, hcz⟩ := hJ.md.some i z hi hk
      refine .inl ⟨z, p, hJ.jn.done.2 (.inr ⟨hi, lt_of_get hp, hcz.symm⟩), hp, p1, ?_⟩
      simp [kindO, hp]
theorem same_cs (h : CsM O w cb G E st fs m) (hst : 0 ≤ fs ∧ fs ≤ 1000000000000) (hG : G.length ≤ 500000) (a b : Int) (ha : (Lit.int .i64 a).wf = true) (hb : (Lit.int .i64 b).wf = true) :
    Calls Try.prog 22 #[.pointer (some ⟨cb, 0, none⟩), .int .i64 a, .int .i64 b] w fun e w' => ∃ (t : Bool) (k : Nat), e = .returned (.bool t) ∧ (t = true ↔ SameIs G E a b) ∧ k ≤ 2 * dg G.length ∧ CsM O w' cb G E st (fs + k) m ∧ Else O w w' := by
  obtain ⟨⟨A, kn, nx, col, ro, hC, hJ, hR, hB, hm⟩, h2, h3⟩ := h
  refine (same_cl hC hst (Un.dg_le (by omega)) a b ha hb gvar_in gvar_in).mono ?_
  rintro e w' ⟨k, rfl, hk, hC', hE⟩
  refine ⟨_, k, rfl, ?_, hk, CsM.turned hC' hE hJ hR hB hm h2 h3, hE.mono fun j hj => hC.own j (.inr (.inl hj))⟩
  unfold SameIs rootV
  cases hga : gvar G a with
  | none => simp
  | some i => cases hgb : gvar G b with
    | none => simp
    | some j =>
      have := hJ.same (gvar_lt hga) (gvar_lt hgb)
      simp [this]
theorem err_cs (h : CsM O w cb G E st fs m) : Calls Try.prog 39 #[.pointer (some ⟨cb, 0, none⟩)] w fun e w' => e = .returned (.int .i64 0) ∧ w' = w := by
  obtain ⟨⟨A, kn, nx, col, ro, hC, _⟩, _⟩ := h
  exact err_cl hC
theorem CsM.noClash (h : CsM O w cb G E st fs m) : ¬ Clash G E := by
  obtain ⟨⟨A, kn, nx, col, ro, _, hJ, _⟩, _⟩ := h
  exact hJ.jn.noClash
/-- One that clashes is asked for more. -/
theorem equate_cx (h : CxM w cb st) (k n k' n' : Int) (u u' : Sl) : Calls Try.prog 12 #[.pointer (some ⟨cb, 0, none⟩), tyVal k n (slv u), tyVal k' n' (slv u')] w fun e w' => e = .returned (.int .i64 7) ∧ Below w.heap.size w w' := by
  obtain ⟨u1, u2, u3⟩ := u
  obtain ⟨v1, v2, v3⟩ := u'
  have hl : cb < w.heap.size := (Array.getElem?_eq_some_iff.1 h).1
  obtain ⟨w1, hw1⟩ : ∃ w1, (w.alloc (.cells #[.int .i64 k, .int .i64 n, .slice u1 u2 u3] 36)).alloc (.cells #[.int .i64 k', .int .i64 n', .slice v1 v2 v3] 36) = w1 := ⟨_, rfl⟩
  have hb1 : Below w.heap.size w w1 := by rw [← hw1]; exact ((Below.refl _ _).alloc (Nat.le_refl _) _).alloc (by simp) _
  have HER := Lib.hid (err_cx (w := w1) ((hb1.block cb hl).trans h))
  have HB := Lib.hid hb1
  clear h hb1
  dsimp only [tyVal, slv]
  go_enter Try.func12, Try.ntmps12
  go_wp2_with fail
  refine HER.out.mono ?_
  rintro e w' ⟨rfl, rfl⟩
  go_wp2_with fail
  exact bodyPost_ret (results_tmp rfl _ _ _) rfl ⟨rfl, HB.out⟩
/-- What a new closure owns. -/
theorem new_cl2 (w : World) : Calls Try.prog 11 #[] w fun e w' => ∃ cb A, e = .returned (.pointer (some ⟨cb, 0, none⟩)) ∧ ClM (fun k => w.heap.size ≤ k) w' cb A 0 false 0 [] (fun _ => (none, none)) (fun j => j) (fun j => j) (fun j => j) 0 ∧ Bare w' cb A.ob (.int .i64 0) (.bool false) (.pointer (some ⟨A.g, 0, none⟩)) A.K A.N ∧ Below w.heap.size w w' := by
  have hmm := @run_makeMap Try.prog
  have HN := new_graph w
  go_enter Try.func11, Try.ntmps11
  go_wp2_with fail
  refine HN.mono ?_
  rintro e w1 ⟨g, mb, rfl, hG, hB⟩
  have HG := Lib.hid (And.intro hG hB)
  clear hG hB HN
  go_wp2_with fail
  obtain ⟨hG, hB⟩ := HG.out
  refine bodyPost_ret (results_tmp rfl _ _ _) rfl ?_
  have hb2 : Below w1.heap.size w1 ((w1.alloc (Obj.map #[] 0)).alloc (Obj.cells #[.int .i64 0, .bool false, .pointer (some ⟨g, 0, none⟩), .slice none 0 0, .int .i64 0, .map (some w1.heap.size), .slice none 0 0, .slice none 0 0] 85)) := ((Below.refl _ _).alloc (Nat.le_refl _) _).alloc (by simp) _
  have hlt := hG.lt
  have hge := hG.ge
  have hsz := hB.size
  have hrow : ((w1.alloc (Obj.map #[] 0)).alloc (Obj.cells #[.int .i64 0, .bool false, .pointer (some ⟨g, 0, none⟩), .slice none 0 0, .int .i64 0, .map (some w1.heap.size), .slice none 0 0, .slice none 0 0] 85)).heap[w1.heap.size + 1]? = some (Obj.cells #[.int .i64 0, .bool false, .pointer (some ⟨g, 0, none⟩), .slice none 0 0, .int .i64 0, .map (some w1.heap.size), .slice none 0 0, .slice none 0 0] 85) := by
    have h := heap_alloc_new (w1.alloc (Obj.map #[] 0)) (Obj.cells #[.int .i64 0, .bool false, .pointer (some ⟨g, 0, none⟩), .slice none 0 0, .int .i64 0, .map (some w1.heap.size), .slice none 0 0, .slice none 0 0] 85)
    rwa [World.size_alloc] at h
  refine ⟨_, ⟨g, mb, .slice none 0 0, [], w1.heap.size + 1, 0, 0, w1.heap.size, .slice none 0 0, .slice none 0 0, fun _ => False⟩, rfl, ⟨.inr ⟨rfl, ⟨rfl, rfl⟩, hrow, ?_⟩, (hG.below hb2).zero, World.ownsRow_nil _ _ _ _, World.ownsRow_nil _ _ _ _, ?_, fun k hk => (by cases hk), fun k hk => (by cases hk), ?_, fun k hk => hk.elim⟩, hrow, hB.trans (hb2.mono hsz)⟩
  · exact (MapF.made w1).kept (World.grownBy_alloc _ _ none) (by simp)
  · intro k hk hF
    have h1 : k < w1.heap.size := by
      rcases hk with h | h | h | ⟨x, hx, _⟩
      · have h : k = g := h
        omega
      · have h : k = mb := h
        omega
      · cases h
      · cases hx
    rcases hF with h | h | h | h | h | h
    · exact h
    · omega
    · have h : k = w1.heap.size := h
      omega
    · have h : k = w1.heap.size + 1 := h
      omega
    · cases h
    · cases h
  · intro k hk
    rcases hk with (h | h | h | ⟨x, hx, _⟩) | (h | h | h | h | h | h)
    · have h : k = g := h
      show w.heap.size ≤ k
      omega
    · have h : k = mb := h
      show w.heap.size ≤ k
      omega
    · cases h
    · cases hx
    · exact h.elim
    · show w.heap.size ≤ k
      omega
    · have h : k = w1.heap.size := h
      show w.heap.size ≤ k
      omega
    · have h : k = w1.heap.size + 1 := h
      show w.heap.size ≤ k
      omega
    · cases h
    · cases h
/-- A new one. -/
theorem new_cs (w : World) : Calls Try.prog 11 #[] w fun e w' => ∃ cb, e = .returned (.pointer (some ⟨cb, 0, none⟩)) ∧ CsM (fun k => w.heap.size ≤ k) w' cb [] [] 0 0 0 ∧ Below w.heap.size w w' := by
  refine (new_cl2 w).mono ?_
  rintro e w' ⟨cb, A, rfl, hC, hb, hB⟩
  have hJ : Js [] 0 (fun j => j) (fun j => j) (fun _ => (none, none)) [] [] :=
    ⟨⟨fun i j hi => by simp at hi, fun a b h => (by cases h), fun a b h => (by cases h), fun x y p q hp => by simp at hp, fun x p hp => by simp at hp⟩, rfl, ⟨fun i j hi => by simp at hi, fun i p hp => by simp at hp, fun i k hi => by simp at hi⟩, ⟨fun i l hi => by omega, fun i v p hi => by omega⟩, fun i hi => by omega, fun i j hi => by omega⟩
  refine ⟨cb, rfl, ⟨⟨A, _, _, _, _, hC, hJ, fun i hi => by simp at hi, fun _ => hb, rfl⟩, fun x hx => (by cases hx), fun x hx => (by cases hx)⟩, hB⟩
end
end Go.Proofs.Ytbnpmeaaaecciaa
/- unify's example: what is plain; types that stay. -/
namespace Go.Proofs.Ytbnpmeaaaecciaa
open Go.RowKit Go.Shelf
open Un (Else StM rowI UFo own_else dg swp wp_world paint cnt Rings)
set_option maxRecDepth 100000
theorem nm_idn (k n : Int) : nm idn k n = n := by unfold nm; split <;> rfl
theorem Img.gadd {f g : Fo} (h : Img idn f g) : ∀ G, gadd G g = gadd G f := by
  induction f generalizing g with
  | nil => cases g with
    | nil => intro G; rfl
    | cons => exact h.elim
  | cons k n u ps r i1 i2 => cases g with
    | nil => exact h.elim
    | cons k' n' u' ps' r' =>
      obtain ⟨rfl, e, h1, h2⟩ := h
      rw [nm_idn] at e
      subst e
      intro G
      rw [gadd_cons, gadd_cons, gadd1_eq, gadd1_eq, i1 h1, i2 h2]
/-- Right, by how many parts there are. -/
def AlP : Fo → Prop
  | .nil => True
  | .cons k n _ ps r => alone k n ps.len = true ∧ AlP ps ∧ AlP r
theorem Img.alp {f g : Fo} (h : Img idn f g) (ha : AlP f) : AlP g := by
  induction f generalizing g with
  | nil => cases g with
    | nil => trivial
    | cons => exact h.elim
  | cons k n u ps r i1 i2 => cases g with
    | nil => exact h.elim
    | cons k' n' u' ps' r' =>
      obtain ⟨rfl, e, h1, h2⟩ := h
      rw [nm_idn] at e
      subst e
      exact ⟨by rw [h1.len]; exact ha.1, i1 h1 ha.2.1, i2 h2 ha.2.2⟩
theorem AlP.all {f : Fo} (h : AlP f) (hl : LenOk f) : ∀ x ∈ f.pre, alone x.1 x.2.1 x.2.2.2.1 = true := by
  induction f with
  | nil => intro x hx; simp [Fo.pre] at hx
  | cons k n u ps r i1 i2 =>
    intro x hx
    simp only [Fo.pre, List.mem_cons, List.mem_append] at hx
    rcases hx with rfl | hx | hx
    · show alone k n u.2.1 = true
      rw [hl.1]; exact h.1
    · exact i1 h.2.1 hl.2.1 x hx
    · exact i2 h.2.2 hl.2.2 x hx
theorem Img.wfi {f g : Fo} (h : Img idn f g) (hf : f.wf) : g.wf := by
  induction f generalizing g with
  | nil => cases g with
    | nil => trivial
    | cons => exact h.elim
  | cons k n u ps r i1 i2 => cases g with
    | nil => exact h.elim
    | cons k' n' u' ps' r' =>
      obtain ⟨rfl, e, h1, h2⟩ := h
      rw [nm_idn] at e
      subst e
      exact ⟨hf.1, i1 h1 hf.2.1, i2 h2 hf.2.2⟩
section
variable {O : Nat → Prop} {w : World} {k n : Int} {u : Sl} {ps : Fo} {B : Nat}
/-- A type made anew, above what may turn. -/
theorem TyLat.fresh (h : FreshT 36 B w idn ps u) (hO : ∀ k, O k → k < B) (ha : AlP (Fo.cons k n u ps .nil)) (hwf : (Fo.cons k n u ps .nil).wf) : TyLat O w k n u ps := by
  intro W hE
  obtain ⟨g, hg, hv⟩ := h W hE.size fun b cs hb hl => (hE.block b (Array.getElem?_eq_some_iff.1 hl).1 (fun e => by
    have := (Array.getElem?_eq_some_iff.1 hl).1
    rcases e with e | e
    · have := hO b e; omega
    · omega)).trans hl
  have hI : Img idn (Fo.cons k n u ps .nil) (Fo.cons k n u g .nil) := ⟨rfl, (nm_idn k n).symm, hg, trivial⟩
  refine ⟨g, fun G => ?_, hg.size, hv, hI.wfi hwf, ?_⟩
  · rw [gadd1_eq, gadd1_eq, hg.gadd]
  · have hl : LenOk (Fo.cons k n u g .nil) := ⟨TyV.len hv, (TyV.list hv).lenOk, trivial⟩
    have := (hI.alp ha).all hl
    simpa [allAlone] using this
/-- A type below what may turn. -/
theorem TyLat.low (h : TyV B w ps (slv u)) (hO : ∀ k, O k → B ≤ k) (hB : B ≤ w.heap.size) (hwf : (Fo.cons k n u ps .nil).wf) (hr : allAlone (Fo.cons k n u ps .nil).pre = true) : TyLat O w k n u ps := by
  intro W hE
  have hb : Below B w W := hE.below (fun j hj => hj.elim (hO j) fun e => by omega) hB
  exact ⟨ps, fun _ => rfl, rfl, (h.below hb).keep (Nat.le_trans hB hb.size) fun _ _ _ => rfl, hwf, hr⟩
/-- A variable. -/
theorem TyLat.var (v : Int) (h : 0 ≤ v ∧ v < 1073741824) (hw : (Lit.int .i64 v).wf = true) : TyLat O w 1 v (none, 0, 0) .nil := by
  intro W hE
  refine ⟨.nil, fun _ => rfl, rfl, no_parts _ _, ⟨hw, trivial, trivial⟩, ?_⟩
  · simp [allAlone, Fo.pre, alone, h.1, h.2]
end
/-- A model, asked. -/
def mdl (G : List Gn) (E : List (Nat × Nat)) (val : List Nat) : Bool :=
  (E.all fun e => val[e.1]? == val[e.2]?) && (List.range G.length).all fun x => (List.range G.length).all fun y => match G[x]?, G[y]? with
    | some p, some q => p.1 == 1 || q.1 == 1 || !(val[x]? == val[y]?) || (p.1 == q.1 && p.2.2.2.length == q.2.2.2.length && (pairs p.2.2.2 q.2.2.2).all fun e => val[e.1]? == val[e.2]?)
    | _, _ => true
theorem mdl_is {G : List Gn} {E : List (Nat × Nat)} {val : List Nat} (h : mdl G E val = true) : (∀ a b, (a, b) ∈ E → val[a]? = val[b]?) ∧
    ∀ (x y : Nat) (p q : Gn), G[x]? = some p → G[y]? = some q → p.1 ≠ 1 → q.1 ≠ 1 → val[x]? = val[y]? → Fit p q ∧ ∀ (j a b : Nat), p.2.2.2[j]? = some a → q.2.2.2[j]? = some b → val[a]? = val[b]? := by
  unfold mdl at h
  rw [Bool.and_eq_true] at h
  obtain ⟨h1, h2⟩ := h
  refine ⟨fun a b hab => by simpa using List.all_eq_true.1 h1 (a, b) hab, fun x y p q hp hq p1 q1 hv => ?_⟩
  have h3 := List.all_eq_true.1 (List.all_eq_true.1 h2 x (List.mem_range.2 (lt_of_get hp))) y (List.mem_range.2 (lt_of_get hq))
  rw [hp, hq] at h3
  have e1 : (p.1 == 1) = false := by simpa using p1
  have e2 : (q.1 == 1) = false := by simpa using q1
  have e3 : (val[x]? == val[y]?) = true := by simpa using hv
  simp only [e1, e2, e3, Bool.false_or, Bool.not_true, Bool.and_eq_true, beq_iff_eq] at h3
  exact ⟨⟨h3.1.1, h3.1.2⟩, fun j a b ha hb => by simpa using List.all_eq_true.1 h3.2 (a, b) (mem_pairs.2 ⟨j, ha, hb⟩)⟩
theorem mdl_cl {G : List Gn} {E : List (Nat × Nat)} {val : List Nat} (h : mdl G E val = true) {a b : Nat} (hc : Cl G E a b) : val[a]? = val[b]? := hc.model (fun i => val[i]?) (mdl_is h).1 (mdl_is h).2
theorem mdl_no {G : List Gn} {E : List (Nat × Nat)} {val : List Nat} (h : mdl G E val = true) : ¬ Clash G E := Clash.model (fun i => val[i]?) (mdl_is h).1 (mdl_is h).2
/-- The example's nodes. -/
def exP (k n k' n' : Int) : Fo := .cons k n (none, 0, 0) .nil (.cons k' n' (none, 0, 0) .nil .nil)
def exG1 : List Gn := [(1, 0, 1, []), (2, 0, 1, []), (1, 1, 1, []), (4, 0, 3, [1, 2])]
def exG2 : List Gn := [(1, 0, 1, []), (2, 0, 1, []), (1, 1, 1, []), (4, 0, 3, [1, 2]), (1, 2, 1, []), (3, 0, 1, []), (4, 0, 3, [4, 5])]
theorem ex1 : eqG [] 1 0 .nil 4 0 (exP 2 0 1 1) = exG1 ∧ eqE [] [] 1 0 .nil 4 0 (exP 2 0 1 1) = [(0, 3)] := by
  simp only [eqG, eqE, exP, gadd1_eq, gadd_cons, gadd_nil]
  exact ⟨rfl, rfl⟩
theorem ex2 : eqG exG1 1 0 .nil 4 0 (exP 1 2 3 0) = exG2 ∧ eqE exG1 [(0, 3)] 1 0 .nil 4 0 (exP 1 2 3 0) = [(0, 3), (0, 6)] := by
  simp only [eqG, eqE, exP, gadd1_eq, gadd_cons, gadd_nil]
  exact ⟨rfl, rfl⟩
theorem ex_m1 : mdl exG1 [(0, 3)] [0, 1, 2, 0] = true := by decide
theorem ex_m2 : mdl exG2 [(0, 3), (0, 6)] [0, 1, 2, 0, 1, 2, 0] = true := by decide
theorem ex_36 : Cl exG2 [(0, 3), (0, 6)] 3 6 := (Cl.symm (Cl.eq (a := 0) (b := 3) (by simp))).trans (Cl.eq (a := 0) (b := 6) (by simp))
theorem ex_14 : Cl exG2 [(0, 3), (0, 6)] 4 1 := .symm (.part (j := 0) ex_36 (p := (4, 0, 3, [1, 2])) (q := (4, 0, 3, [4, 5])) rfl rfl (by decide) (by decide) rfl rfl rfl rfl)
theorem ex_25 : Cl exG2 [(0, 3), (0, 6)] 2 5 := .part (j := 1) ex_36 (p := (4, 0, 3, [1, 2])) (q := (4, 0, 3, [4, 5])) rfl rfl (by decide) (by decide) rfl rfl rfl rfl
theorem ex_k {i : Nat} {c : Int} {z : Nat} {qz : Gn} (hz : Cl exG2 [(0, 3), (0, 6)] i z) (hq : exG2[z]? = some qz) (hc : qz.1 = c) (c1 : c ≠ 1) (hu : ∀ (y : Nat) (q : Gn), exG2[y]? = some q → q.1 ≠ 1 → ([0, 1, 2, 0, 1, 2, 0] : List Nat)[i]? = ([0, 1, 2, 0, 1, 2, 0] : List Nat)[y]? → q.1 = c) {v r : Int} (hv : gvar exG2 v = some i) (h : KindIs exG2 [(0, 3), (0, 6)] v r) : r = c := by
  unfold KindIs at h
  rw [hv] at h
  rcases h with ⟨y, q, h1, h2, h3, rfl⟩ | ⟨_, h⟩
  · exact hu y q h2 h3 (mdl_cl ex_m2 h1)
  · exact absurd (h z qz hz hq) (by rw [hc]; exact c1)
theorem ex_all {c : Int} {i : Nat} (h : (List.range 7).all (fun y => match exG2[y]? with | some q => q.1 == 1 || !(([0, 1, 2, 0, 1, 2, 0] : List Nat)[i]? == ([0, 1, 2, 0, 1, 2, 0] : List Nat)[y]?) || q.1 == c | none => true) = true) (y : Nat) (q : Gn) (hq : exG2[y]? = some q) (q1 : q.1 ≠ 1) (hv : ([0, 1, 2, 0, 1, 2, 0] : List Nat)[i]? = ([0, 1, 2, 0, 1, 2, 0] : List Nat)[y]?) : q.1 = c := by
  have h3 := List.all_eq_true.1 h y (List.mem_range.2 (lt_of_get hq))
  rw [hq] at h3
  have e1 : (q.1 == 1) = false := by simpa using q1
  have e3 : (([0, 1, 2, 0, 1, 2, 0] : List Nat)[i]? == ([0, 1, 2, 0, 1, 2, 0] : List Nat)[y]?) = true := by rw [hv]; simp
  simpa only [e1, e3, Bool.false_or, Bool.not_true, beq_iff_eq] using h3
theorem ex_k2 {r : Int} (h : KindIs exG2 [(0, 3), (0, 6)] 2 r) : r = 2 := ex_k (z := 1) ex_14 (qz := (2, 0, 1, [])) rfl rfl (by decide) (ex_all (i := 4) (by decide)) (v := 2) (by decide) h
theorem ex_k1 {r : Int} (h : KindIs exG2 [(0, 3), (0, 6)] 1 r) : r = 3 := ex_k (z := 5) ex_25 (qz := (3, 0, 1, [])) rfl rfl (by decide) (ex_all (i := 2) (by decide)) (v := 1) (by decide) h
theorem ex_s : ¬ SameIs exG2 [(0, 3), (0, 6)] 1 2 := by
  rintro ⟨i, j, hi, hj, hc⟩
  have e1 : gvar exG2 1 = some 2 := by decide
  have e2 : gvar exG2 2 = some 4 := by decide
  rw [e1] at hi
  rw [e2] at hj
  cases hi
  cases hj
  have := mdl_cl ex_m2 hc
  revert this
  decide
end Go.Proofs.Ytbnpmeaaaecciaa
/- unify's example, walked. -/
namespace Go.Proofs.Ytbnpmeaaaecciaa
open Go.RowKit Go.Shelf
open Un (Else StM rowI UFo own_else dg swp wp_world paint cnt Rings)
set_option maxRecDepth 100000
theorem CsM.tight {O : Nat → Prop} {w : World} {cb m : Nat} {G : List Gn} {E : List (Nat × Nat)} {st fs : Int} (h : CsM O w cb G E st fs m) : ∃ O' : Nat → Prop, (∀ k, O' k → O k ∧ k < w.heap.size) ∧ CsM O' w cb G E st fs m := by
  obtain ⟨⟨A, kn, nx, col, ro, hC, h2⟩, h3⟩ := h
  exact ⟨fun k => A.D k ∨ A.F cb k, fun k hk => ⟨hC.own k hk, hC.lt hk⟩, ⟨A, kn, nx, col, ro, hC.tight, h2⟩, h3⟩
theorem bnd {d j J : Nat} (hd : d ≤ 21) (hj : j ≤ J) : 4 * (d : Int) * (j : Int) ≤ 84 * (J : Int) := by
  have h : 4 * d * j ≤ 84 * J := Nat.mul_le_mul (by omega) hj
  have h2 : ((4 * d * j : Nat) : Int) ≤ ((84 * J : Nat) : Int) := by exact_mod_cast h
  push_cast at h2
  exact h2
theorem else_low {B : Nat} {w w' : World} (h : Below B w w') : Else (fun j => B ≤ j) w w' := ⟨h.os, h.tape, h.output, h.size, fun k _ hk => h.block k (by omega)⟩
set_option maxHeartbeats 4000000 in
theorem awake12 (w : World) : Calls Try.prog 7 #[] w fun e w' => e = .returned (.bool true) ∧ Below w.heap.size w w' := by
  go_enter Try.func7, Try.ntmps7
  go_wp2_with fail
  refine (new_cs w).mono ?_
  rintro e w1 ⟨cb, rfl, hC1, hb1⟩
  obtain ⟨O1, hO1, hC1⟩ := hC1.tight
  have H1 := Lib.hid (And.intro hO1 (And.intro hC1 hb1))
  clear hO1 hC1 hb1
  go_upto_region 3 with fail
  refine wp_world (fun Z => Z.heap[w1.heap.size]? = some (.cells #[.int .i64 2, .int .i64 0, .slice none 0 0] 36) ∧ Z.heap[w1.heap.size + 1]? = some (.cells #[.int .i64 3, .int .i64 0, .slice none 0 0] 36) ∧ Below w1.heap.size w1 Z) ?_ ?_
  · refine ⟨(Below.heap_alloc _ _ _ (by simp)).trans (heap_alloc_new _ _), ?_, ((Below.refl _ _).alloc (Nat.le_refl _) _).alloc (by simp) _⟩
    have h := heap_alloc_new (w1.alloc (.cells #[.int .i64 2, .int .i64 0, .slice none 0 0] 36)) (.cells #[.int .i64 3, .int .i64 0, .slice none 0 0] 36)
    rwa [World.size_alloc] at h
  rintro V ⟨hx2, hx3, hbV⟩
  have HV := Lib.hid (And.intro hx2 (And.intro hx3 hbV))
  obtain ⟨S0, hSof, hSto⟩ : ∃ S0 : World → Prop, (∀ W : World, W.heap[w1.heap.size]? = some (.cells #[.int .i64 2, .int .i64 0, .slice none 0 0] 36) ∧ W.heap[w1.heap.size + 1]? = some (.cells #[.int .i64 3, .int .i64 0, .slice none 0 0] 36) → S0 W) ∧ (∀ W, S0 W → (W.heap[w1.heap.size]? = some (.cells #[.int .i64 2, .int .i64 0, .slice none 0 0] 36) ∧ W.heap[w1.heap.size + 1]? = some (.cells #[.int .i64 3, .int .i64 0, .slice none 0 0] 36))) := ⟨_, fun _ h => h, fun _ h => h⟩
  have EX2 : Hid (∀ W, S0 W → W.cell? ⟨w1.heap.size, 0, none⟩ = some (.int .i64 2) ∧ W.cell? ⟨w1.heap.size, 1, none⟩ = some (.int .i64 0) ∧ W.cell? ⟨w1.heap.size, 2, none⟩ = some (.slice none 0 0)) := Lib.hid fun W h => ⟨cell_of_row W _ 0 _ _ (0, 0) (hSto W h).1, cell_of_row W _ 1 _ _ (0, 0) (hSto W h).1, cell_of_row W _ 2 _ _ (0, 0) (hSto W h).1⟩
  have EX3 : Hid (∀ W, S0 W → W.cell? ⟨w1.heap.size + 1, 0, none⟩ = some (.int .i64 3) ∧ W.cell? ⟨w1.heap.size + 1, 1, none⟩ = some (.int .i64 0) ∧ W.cell? ⟨w1.heap.size + 1, 2, none⟩ = some (.slice none 0 0)) := Lib.hid fun W h => ⟨cell_of_row W _ 0 _ _ (0, 0) (hSto W h).2, cell_of_row W _ 1 _ _ (0, 0) (hSto W h).2, cell_of_row W _ 2 _ _ (0, 0) (hSto W h).2⟩
  have HSB : Hid (∀ W W', S0 W → Below W.heap.size W W' → S0 W') := Lib.hid fun W W' h hb => hSof W' ⟨(hb.block _ (Array.getElem?_eq_some_iff.1 (hSto W h).1).1).trans (hSto W h).1, (hb.block _ (Array.getElem?_eq_some_iff.1 (hSto W h).2).1).trans (hSto W h).2⟩
  have HSE : Hid (∀ (T : Nat → Prop) W W', S0 W → Else T W W' → ¬ T w1.heap.size → ¬ T (w1.heap.size + 1) → S0 W') := Lib.hid fun T W W' h he t1 t2 => hSof W' ⟨(he.block _ (Array.getElem?_eq_some_iff.1 (hSto W h).1).1 t1).trans (hSto W h).1, (he.block _ (Array.getElem?_eq_some_iff.1 (hSto W h).2).1 t2).trans (hSto W h).2⟩
  have hS : S0 V.drew := hSof _ ⟨hx2, hx3⟩
  have hbV' : Below w1.heap.size w1 V.drew := hbV.trans ((Below.refl _ V).drew.mono hbV.size)
  have HBV := Lib.hid hbV'
  have HVV : Hid (V.heap.size = V.drew.heap.size) := Lib.hid rfl
  clear hx2 hx3 hbV hSof hSto hbV'
  refine wp_region_held (S := S0) (by kernel_rfl) ?_
  change wpAnyH _ _ _ _ _ 8 (List.replicate 8 false).toArray _ V.drew
  simp only [List.replicate_succ, List.replicate_zero]
  refine any_take (i := 0) (some 9) (.pointer (some ⟨cb, 0, none⟩)) rfl (by rfl) (by kernel_rfl) (by kernel_rfl) (by kernel_rfl) (fun _ _ _ h => h) (Or.inl ⟨by kernel_rfl, (fun W hw => by clear hw; go_simp)⟩) hS ?_
  simp only [Act.put, List.setIfInBounds_toArray, List.set_cons_zero, List.set_cons_succ]
  refine any_take (i := 2) (some 11) (.agg #[.int .i64 2, .int .i64 0, .slice none 0 0]) rfl (by rfl) (by kernel_rfl) (by kernel_rfl) (by kernel_rfl) (fun _ _ _ h => h) (Or.inl ⟨by kernel_rfl, (fun W hw => by obtain ⟨n0, n1, n2⟩ := EX2.out W hw; clear hw; go_simp)⟩) hS ?_
  simp only [Act.put, List.setIfInBounds_toArray, List.set_cons_zero, List.set_cons_succ]
  refine wpAnyH_all (rs := [1]) (by kernel_rfl) (by simp) fun q' hq' => ?_
  obtain rfl : q' = 1 := by simpa using hq'
  refine ops_call (d := some 10) rfl (by rfl) (by kernel_rfl) (by go_simp) ((var_any 0 _).mono ?_)
  rintro e w4 ⟨rfl, hb4⟩
  have hS4 := HSB.out _ _ hS hb4
  have HB4 := Lib.hid (HBV.out.trans (hb4.mono HBV.out.size))
  clear hb4
  dsimp only [tyVal]
  refine ⟨_, rfl, hS4, ?_⟩
  simp only [Act.put, List.setIfInBounds_toArray, List.set_cons_zero, List.set_cons_succ]
  refine wpAnyH_all (rs := [3]) (by kernel_rfl) (by simp) fun q' hq' => ?_
  obtain rfl : q' = 3 := by simpa using hq'
  refine ops_call (d := some 12) rfl (by rfl) (by kernel_rfl) (by go_simp) ((var_any 1 _).mono ?_)
  rintro e w5 ⟨rfl, hb5⟩
  have hS5 := HSB.out _ _ hS4 hb5
  have HB5 := Lib.hid (HB4.out.trans (hb5.mono HB4.out.size))
  clear hb5 HB4
  dsimp only [tyVal]
  refine ⟨_, rfl, hS5, ?_⟩
  simp only [Act.put, List.setIfInBounds_toArray, List.set_cons_zero, List.set_cons_succ]
  refine wpAnyH_all (rs := [4]) (by kernel_rfl) (by simp) fun q' hq' => ?_
  obtain rfl : q' = 4 := by simpa using hq'
  have hx6 : (w5.alloc (.cells #[.int .i64 2, .int .i64 0, .slice none 0 0, .int .i64 1, .int .i64 1, .slice none 0 0] 36)).heap[w5.heap.size]? = some (.cells #[.int .i64 2, .int .i64 0, .slice none 0 0, .int .i64 1, .int .i64 1, .slice none 0 0] 36) := heap_alloc_new _ _
  have hb6 : Below w5.heap.size w5 (w5.alloc (.cells #[.int .i64 2, .int .i64 0, .slice none 0 0, .int .i64 1, .int .i64 1, .slice none 0 0] 36)) := (Below.refl _ _).alloc (Nat.le_refl _) _
  have hS6 := HSB.out _ _ hS5 hb6
  have hz6 : (w5.alloc (.cells #[.int .i64 2, .int .i64 0, .slice none 0 0, .int .i64 1, .int .i64 1, .slice none 0 0] 36)).heap.size = w5.heap.size + 1 := by simp
  refine ops_val (d := some 13) (v := .slice (some ⟨w5.heap.size, 0, none⟩) 2 2) (w' := w5.alloc (.cells #[.int .i64 2, .int .i64 0, .slice none 0 0, .int .i64 1, .int .i64 1, .slice none 0 0] 36)) rfl (by rfl) (by kernel_rfl) (by go_simp) hS6 ?_
  simp only [Act.put, List.setIfInBounds_toArray, List.set_cons_zero, List.set_cons_succ]
  obtain ⟨w6, hw6⟩ : ∃ z, w5.alloc (.cells #[.int .i64 2, .int .i64 0, .slice none 0 0, .int .i64 1, .int .i64 1, .slice none 0 0] 36) = z := ⟨_, rfl⟩
  rw [hw6] at hx6 hb6 hS6 hz6 ⊢
  have HB6 := Lib.hid (HB5.out.trans (hb6.mono HB5.out.size))
  have har := arrow_pair w6 w5.heap.size 2 2 0 1 1 (none, 0, 0) (none, 0, 0) .nil .nil (by omega) (Nat.le_refl _) (by unfold maxLen; omega) (cell_of_row _ _ 0 _ _ (0, 0) hx6) (cell_of_row _ _ 1 _ _ (0, 0) hx6) (cell_of_row _ _ 2 _ _ (0, 0) hx6) (cell_of_row _ _ 3 _ _ (0, 0) hx6) (cell_of_row _ _ 4 _ _ (0, 0) hx6) (cell_of_row _ _ 5 _ _ (0, 0) hx6) (no_parts _ _) (no_parts _ _) (by simp [Fo.size])
  have HAR := Lib.hid har
  clear har hx6 hb6 hw6 hS5 hS4 HB5 hz6
  refine wpAnyH_all (rs := [5]) (by kernel_rfl) (by simp) fun q' hq' => ?_
  obtain rfl : q' = 5 := by simpa using hq'
  refine ops_call (d := some 14) rfl (by rfl) (by kernel_rfl) (by go_simp) (HAR.out.mono ?_)
  clear HAR
  rintro e w7 ⟨⟨u1, u2, u3⟩, rfl, hb7, hF7⟩
  have hS7 := HSB.out _ _ hS6 hb7
  have HB7 := Lib.hid (HB6.out.trans (hb7.mono HB6.out.size))
  have h67 := hb7.size
  dsimp only [tyVal, slv]
  refine ⟨_, rfl, hS7, ?_⟩
  simp only [Act.put, List.setIfInBounds_toArray, List.set_cons_zero, List.set_cons_succ]
  have hC7 := H1.out.2.1.keep (T := fun j => w1.heap.size ≤ j) (else_low HB7.out) fun j hj => by have := (H1.out.1 j hj).2; omega
  have HEQ := equate_ok hC7 1 0 4 0 (none, 0, 0) (u1, u2, u3) .nil (exP 2 0 1 1) (TyLat.var 0 (by omega) (by decide)) (TyLat.fresh hF7 (fun j hj => by have := (H1.out.1 j hj).2; have := HB6.out.size; omega) ⟨rfl, ⟨rfl, trivial, rfl, trivial, trivial⟩, trivial⟩ ⟨by decide, ⟨by decide, trivial, by decide, trivial, trivial⟩, trivial⟩) (by decide) (by omega) (by omega)
  rw [ex1.1, ex1.2] at HEQ
  dsimp only [tyVal, slv] at HEQ
  have HEQH := Lib.hid HEQ
  clear HEQ hC7 hF7 hb7 hS6
  refine wpAnyH_all (rs := [6]) (by kernel_rfl) (by simp) fun q' hq' => ?_
  obtain rfl : q' = 6 := by simpa using hq'
  refine ops_call (d := some 15) rfl (by rfl) (by kernel_rfl) (by go_simp) (HEQH.out.mono ?_)
  clear HEQH
  rintro e w8 ⟨hE8, st8, j8, hs1, hs2, h⟩
  rcases h with ⟨_, hc, _⟩ | ⟨rfl, _, fs8, m8, hC8, hf1, hf2, hj8⟩
  · exact absurd hc (mdl_no ex_m1)
  have hS8 := HSE.out _ _ _ hS7 hE8 (fun e => by have := (H1.out.1 _ e).2; omega) (fun e => by have := (H1.out.1 _ e).2; omega)
  have hd8 : dg exG1.length ≤ 21 := Un.dg_le (by decide)
  have hj9 : j8 ≤ 1000 := by have e : exG1.length = 4 := rfl; rw [e] at hj8; simp only [List.length_nil] at hj8; omega
  have hbn := bnd hd8 hj9
  obtain ⟨O8, hO8, hC8⟩ := hC8.tight
  have HB8 := Lib.hid (show Below w.heap.size w w8 from (H1.out.2.2.trans (HB7.out.mono H1.out.2.2.size)).trans (hE8.below (fun j hj => (H1.out.1 j hj).1) (by have := HB7.out.size; have := H1.out.2.2.size; omega)))
  have H8 := Lib.hid (And.intro hC8 (And.intro (show ∀ j, O8 j → w.heap.size ≤ j ∧ j < w8.heap.size ∧ j ≠ w1.heap.size ∧ j ≠ w1.heap.size + 1 from fun j hj => by
    obtain ⟨h1, h2⟩ := hO8 j hj
    have a1 := HB7.out.size
    have a2 := H1.out.2.2.size
    have a3 := HV.out.2.2.size
    have a4 := (Array.getElem?_eq_some_iff.1 HV.out.2.1).1
    have a5 := h67
    have a6 := HB6.out.size
    have a7 : w1.heap.size + 1 < w7.heap.size := World.block_lt_of_cell? _ _ (EX3.out _ hS7).1
    rcases h1 with h1 | h1
    · obtain ⟨b1, b2⟩ := H1.out.1 j h1
      omega
    · omega) (show 0 ≤ st8 ∧ st8 ≤ 1000000 ∧ 0 ≤ fs8 ∧ fs8 ≤ 1000000 from by omega)))
  have H8m := Lib.hid (show m8 ≤ 1000 from by have e : exG1.length = 4 := rfl; rw [e] at hj8; simp only [List.length_nil] at hj8; omega)
  clear hE8 hs1 hs2 hC8 hf1 hf2 hj8 hd8 hj9 hbn hO8 hS7 h67
  refine ⟨_, rfl, hS8, ?_⟩
  simp only [Act.put, List.setIfInBounds_toArray, List.set_cons_zero, List.set_cons_succ]
  refine any_take (i := 7) (some 4) (.int .i64 0) rfl (by rfl) (by kernel_rfl) (by kernel_rfl) (by kernel_rfl) (fun _ _ _ h => h) (Or.inl ⟨by kernel_rfl, (fun W hw => by clear hw; go_simp)⟩) hS8 ?_
  simp only [Act.put, List.setIfInBounds_toArray, List.set_cons_zero, List.set_cons_succ]
  refine wpAnyH_done (by kernel_rfl) ?_ _
  clear HB6 HB7
  go_wp2_with fail
  have hS := HSB.out _ _ hS8 ((Below.refl _ w8).drew)
  have HBV8 := Lib.hid ((Below.refl w8.heap.size w8).drew)
  clear hS8
  refine wp_region_held (S := S0) (by kernel_rfl) ?_
  change wpAnyH _ _ _ _ _ 8 (List.replicate 8 false).toArray _ w8.drew
  simp only [List.replicate_succ, List.replicate_zero]
  refine any_take (i := 0) (some 16) (.pointer (some ⟨cb, 0, none⟩)) rfl (by rfl) (by kernel_rfl) (by kernel_rfl) (by kernel_rfl) (fun _ _ _ h => h) (Or.inl ⟨by kernel_rfl, (fun W hw => by clear hw; go_simp)⟩) hS ?_
  simp only [Act.put, List.setIfInBounds_toArray, List.set_cons_zero, List.set_cons_succ]
  refine any_take (i := 3) (some 19) (.agg #[.int .i64 3, .int .i64 0, .slice none 0 0]) rfl (by rfl) (by kernel_rfl) (by kernel_rfl) (by kernel_rfl) (fun _ _ _ h => h) (Or.inl ⟨by kernel_rfl, (fun W hw => by obtain ⟨n0, n1, n2⟩ := EX3.out W hw; clear hw; go_simp)⟩) hS ?_
  simp only [Act.put, List.setIfInBounds_toArray, List.set_cons_zero, List.set_cons_succ]
  refine wpAnyH_all (rs := [1]) (by kernel_rfl) (by simp) fun q' hq' => ?_
  obtain rfl : q' = 1 := by simpa using hq'
  refine ops_call (d := some 17) rfl (by rfl) (by kernel_rfl) (by go_simp) ((var_any 0 _).mono ?_)
  rintro e x4 ⟨rfl, hb4⟩
  have hS4 := HSB.out _ _ hS hb4
  have HB4 := Lib.hid (HBV8.out.trans (hb4.mono HBV8.out.size))
  clear hb4
  dsimp only [tyVal]
  refine ⟨_, rfl, hS4, ?_⟩
  simp only [Act.put, List.setIfInBounds_toArray, List.set_cons_zero, List.set_cons_succ]
  refine wpAnyH_all (rs := [2]) (by kernel_rfl) (by simp) fun q' hq' => ?_
  obtain rfl : q' = 2 := by simpa using hq'
  refine ops_call (d := some 18) rfl (by rfl) (by kernel_rfl) (by go_simp) ((var_any 2 _).mono ?_)
  rintro e x5 ⟨rfl, hb5⟩
  have hS5 := HSB.out _ _ hS4 hb5
  have HB5 := Lib.hid (HB4.out.trans (hb5.mono HB4.out.size))
  clear hb5 HB4
  dsimp only [tyVal]
  refine ⟨_, rfl, hS5, ?_⟩
  simp only [Act.put, List.setIfInBounds_toArray, List.set_cons_zero, List.set_cons_succ]
  refine wpAnyH_all (rs := [4]) (by kernel_rfl) (by simp) fun q' hq' => ?_
  obtain rfl : q' = 4 := by simpa using hq'
  have hx6 : (x5.alloc (.cells #[.int .i64 1, .int .i64 2, .slice none 0 0, .int .i64 3, .int .i64 0, .slice none 0 0] 36)).heap[x5.heap.size]? = some (.cells #[.int .i64 1, .int .i64 2, .slice none 0 0, .int .i64 3, .int .i64 0, .slice none 0 0] 36) := heap_alloc_new _ _
  have hb6 : Below x5.heap.size x5 (x5.alloc (.cells #[.int .i64 1, .int .i64 2, .slice none 0 0, .int .i64 3, .int .i64 0, .slice none 0 0] 36)) := (Below.refl _ _).alloc (Nat.le_refl _) _
  have hS6 := HSB.out _ _ hS5 hb6
  have hz6 : (x5.alloc (.cells #[.int .i64 1, .int .i64 2, .slice none 0 0, .int .i64 3, .int .i64 0, .slice none 0 0] 36)).heap.size = x5.heap.size + 1 := by simp
  refine ops_val (d := some 20) (v := .slice (some ⟨x5.heap.size, 0, none⟩) 2 2) (w' := x5.alloc (.cells #[.int .i64 1, .int .i64 2, .slice none 0 0, .int .i64 3, .int .i64 0, .slice none 0 0] 36)) rfl (by rfl) (by kernel_rfl) (by go_simp) hS6 ?_
  simp only [Act.put, List.setIfInBounds_toArray, List.set_cons_zero, List.set_cons_succ]
  obtain ⟨x6, hw6⟩ : ∃ z, x5.alloc (.cells #[.int .i64 1, .int .i64 2, .slice none 0 0, .int .i64 3, .int .i64 0, .slice none 0 0] 36) = z := ⟨_, rfl⟩
  rw [hw6] at hx6 hb6 hS6 hz6 ⊢
  have HB6 := Lib.hid (HB5.out.trans (hb6.mono HB5.out.size))
  have har := arrow_pair x6 x5.heap.size 2 1 2 3 0 (none, 0, 0) (none, 0, 0) .nil .nil (by omega) (Nat.le_refl _) (by unfold maxLen; omega) (cell_of_row _ _ 0 _ _ (0, 0) hx6) (cell_of_row _ _ 1 _ _ (0, 0) hx6) (cell_of_row _ _ 2 _ _ (0, 0) hx6) (cell_of_row _ _ 3 _ _ (0, 0) hx6) (cell_of_row _ _ 4 _ _ (0, 0) hx6) (cell_of_row _ _ 5 _ _ (0, 0) hx6) (no_parts _ _) (no_parts _ _) (by simp [Fo.size])
  have HAR := Lib.hid har
  clear har hx6 hb6 hw6 hS5 hS4 HB5 hz6
  refine wpAnyH_all (rs := [5]) (by kernel_rfl) (by simp) fun q' hq' => ?_
  obtain rfl : q' = 5 := by simpa using hq'
  refine ops_call (d := some 21) rfl (by rfl) (by kernel_rfl) (by go_simp) (HAR.out.mono ?_)
  clear HAR
  rintro e x7 ⟨⟨u1, u2, u3⟩, rfl, hb7, hF7⟩
  have hS7 := HSB.out _ _ hS6 hb7
  have HB7 := Lib.hid (HB6.out.trans (hb7.mono HB6.out.size))
  have h67 := hb7.size
  dsimp only [tyVal, slv]
  refine ⟨_, rfl, hS7, ?_⟩
  simp only [Act.put, List.setIfInBounds_toArray, List.set_cons_zero, List.set_cons_succ]
  have hC7 := H8.out.1.keep (T := fun j => w8.heap.size ≤ j) (else_low HB7.out) fun j hj => by have := (H8.out.2.1 j hj).2.1; omega
  have HEQ := equate_ok hC7 1 0 4 0 (none, 0, 0) (u1, u2, u3) .nil (exP 1 2 3 0) (TyLat.var 0 (by omega) (by decide)) (TyLat.fresh hF7 (fun j hj => by have := (H8.out.2.1 j hj).2.1; have := HB6.out.size; omega) ⟨rfl, ⟨rfl, trivial, rfl, trivial, trivial⟩, trivial⟩ ⟨by decide, ⟨by decide, trivial, by decide, trivial, trivial⟩, trivial⟩) (by decide) (by have := H8.out.2.2; omega) (by have := H8.out.2.2; omega)
  rw [ex2.1, ex2.2] at HEQ
  dsimp only [tyVal, slv] at HEQ
  have HEQH := Lib.hid HEQ
  clear HEQ hC7 hF7 hb7 hS6
  refine wpAnyH_all (rs := [6]) (by kernel_rfl) (by simp) fun q' hq' => ?_
  obtain rfl : q' = 6 := by simpa using hq'
  refine ops_call (d := some 22) rfl (by rfl) (by kernel_rfl) (by go_simp) (HEQH.out.mono ?_)
  clear HEQH
  rintro e w9 ⟨hE9, st9, j9, hs1, hs2, h⟩
  rcases h with ⟨_, hc, _⟩ | ⟨rfl, _, fs9, m9, hC9, hf1, hf2, hj9⟩
  · exact absurd hc (mdl_no ex_m2)
  have hS9 := HSE.out _ _ _ hS7 hE9 (fun e => (H8.out.2.1 _ e).2.2.1 rfl) (fun e => (H8.out.2.1 _ e).2.2.2 rfl)
  have hm8 : m8 ≤ 1000 := by have := H8m.out; omega
  have hd9 : dg exG2.length ≤ 21 := Un.dg_le (by decide)
  have hj10 : j9 ≤ 100000 := by have e : exG2.length = 7 := rfl; have e2 : exG1.length = 4 := rfl; rw [e, e2] at hj9; omega
  have hbn := bnd hd9 hj10
  have HB9 := Lib.hid (show Below w.heap.size w w9 from (HB8.out.trans (HB7.out.mono HB8.out.size)).trans (hE9.below (fun j hj => (H8.out.2.1 j hj).1) (by have := HB7.out.size; have := HB8.out.size; omega)))
  have H9 := Lib.hid (And.intro hC9 (show 0 ≤ fs9 ∧ fs9 ≤ 100000000 from by have := H8.out.2.2; omega))
  have HO9 : Hid (∀ j, (O8 j ∨ x7.heap.size ≤ j) → w.heap.size ≤ j) := Lib.hid fun j hj => by
    have := HB7.out.size
    have := HB8.out.size
    rcases hj with hj | hj
    · exact (H8.out.2.1 j hj).1
    · omega
  clear hE9 hs1 hs2 hC9 hf1 hf2 hj9 hd9 hj10 hbn hS7 h67 hm8
  refine ⟨_, rfl, hS9, ?_⟩
  simp only [Act.put, List.setIfInBounds_toArray, List.set_cons_zero, List.set_cons_succ]
  refine any_take (i := 7) (some 5) (.int .i64 0) rfl (by rfl) (by kernel_rfl) (by kernel_rfl) (by kernel_rfl) (fun _ _ _ h => h) (Or.inl ⟨by kernel_rfl, (fun W hw => by clear hw; go_simp)⟩) hS9 ?_
  simp only [Act.put, List.setIfInBounds_toArray, List.set_cons_zero, List.set_cons_succ]
  refine wpAnyH_done (by kernel_rfl) ?_ _
  clear HB6 HB7 hS hS9 EX2 EX3 HSB HSE
  have HK := kind_cs H9.out.1 (by have := H9.out.2; omega) 2 (by decide)
  have HKH := Lib.hid HK
  clear HK
  go_wp2_with fail
  refine HKH.out.mono ?_
  clear HKH
  rintro e w10 ⟨r, k10, rfl, hr, hk, hC, hE⟩
  obtain rfl := ex_k2 hr
  have hd9 : dg exG2.length ≤ 21 := Un.dg_le (by decide)
  have H10 := Lib.hid (And.intro hC (And.intro (show Below w.heap.size w w10 from HB9.out.trans (hE.below (fun j hj => HO9.out j hj) HB9.out.size)) (show (k10 : Int) ≤ 21 from by omega)))
  clear hr hk hC hE hd9
  have HK := kind_cs H10.out.1 (by have := H9.out.2; have := H10.out.2.2; omega) 1 (by decide)
  have HKH := Lib.hid HK
  clear HK
  go_wp2_with fail
  refine HKH.out.mono ?_
  clear HKH
  rintro e w11 ⟨r, k11, rfl, hr, hk, hC, hE⟩
  obtain rfl := ex_k1 hr
  have hd9 : dg exG2.length ≤ 21 := Un.dg_le (by decide)
  have H11 := Lib.hid (And.intro hC (And.intro (show Below w.heap.size w w11 from H10.out.2.1.trans (hE.below (fun j hj => HO9.out j hj) H10.out.2.1.size)) (show (k11 : Int) ≤ 21 from by omega)))
  clear hr hk hC hE hd9
  have HK := same_cs H11.out.1 (by have := H9.out.2; have := H10.out.2.2; have := H11.out.2.2; omega) (by decide) 1 2 (by decide) (by decide)
  have HKH := Lib.hid HK
  clear HK
  go_wp2_with fail
  refine HKH.out.mono ?_
  clear HKH
  rintro e w12 ⟨t, k12, rfl, ht, hk, hC, hE⟩
  obtain rfl : t = false := by
    cases t
    · rfl
    · exact absurd (ht.1 rfl) ex_s
  have H12 := Lib.hid (show Below w.heap.size w w12 from H11.out.2.1.trans (hE.below (fun j hj => HO9.out j hj) H11.out.2.1.size))
  clear ht hk hC hE
  go_wp2_with fail
  exact bodyPost_ret (results_tmp rfl _ _ _) rfl ⟨rfl, H12.out⟩
end Go.Proofs.Ytbnpmeaaaecciaa
