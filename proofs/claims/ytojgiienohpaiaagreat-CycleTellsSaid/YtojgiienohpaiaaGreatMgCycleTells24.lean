/- Texts of one proof, one behind the other. -/
import Derived.Test.YtojgiienohpaiaaGreatMgCycleTells23
import Derived.Test.YtojgiienohpaiaaGreatMgCycleTells13
import Derived.Test.YtojgiienohpaiaaGreatMgCycleTells21
import Derived.Test.YtojgiienohpaiaaGreatMgCycleTells19
import Derived.Test.YtojgiienohpaiaaGreatMgCycleTells20
import Derived.Test.YtojgiienohpaiaaGreatMgCycleTells8
import Derived.Test.YtojgiienohpaiaaGreatShKs
import Derived.Test.YtojgiienohpaiaaGreatMgCycleTells18
import Derived.Test.YtojgiienohpaiaaGreatShSo
import Derived.Sort.Row
import Derived.Sort.Grow
namespace Go.Proofs.YtojgiienohpaiaaGreat
open Go.RowKit
open Un (Else StM rowI UFo own_else dg swp wp_world paint cnt Rings)
set_option maxRecDepth 100000
def KindIs (G : List Gn) (E : List (Nat × Nat)) (v : Int) (r : Int) : Prop :=
  match gvar G v with
  | none => r = 0
  | some i => (∃ y q, Cl G E i y ∧ G[y]? = some q ∧ q.1 ≠ 1 ∧ r = q.1) ∨ (r = 0 ∧ ∀ (y : Nat) (q : Gn), Cl G E i y → G[y]? = some q → q.1 = 1)
def SameIs (G : List Gn) (E : List (Nat × Nat)) (a b : Int) : Prop := ∃ i j, gvar G a = some i ∧ gvar G b = some j ∧ Cl G E i j
section
variable {O T : Nat → Prop} {w w' V : World} {cb : Nat} {A : Adr} {st : Int} {cl : Bool} {n m : Nat} {G : List Gn} {kn : Kn} {nx col ro col' ro' : Nat → Nat} {fs fs' : Int} {E : List (Nat × Nat)}
theorem CsM.keep (h : CsM O w cb G E st fs m) (he : Else T w w') (ht : ∀ k, O k → ¬ T k) : CsM O w' cb G E st fs m := by
  obtain ⟨⟨A, kn, nx, col, ro, hC, hJ, hR, hB, hm⟩, h3⟩ := h
  refine ⟨⟨A, kn, nx, col, ro, hC.keep he ht, hJ, hR, fun h0 => ?_, hm⟩, h3⟩
  have hb := hB h0
  have hO := hC.own cb (.inr (.inr (.inl rfl)))
  exact (he.block cb (Array.getElem?_eq_some_iff.1 hb).1 (ht cb hO)).trans hb
theorem CsM.own (h : CsM O w cb G E st fs m) : O cb := by
  obtain ⟨⟨A, kn, nx, col, ro, hC, _⟩, _⟩ := h
  exact hC.own _ (.inr (.inr (.inl rfl)))
theorem CsM.turned {A : Adr} {kn : Kn} {nx col ro : Nat → Nat} (hC : ClM O w' cb A st false G.length G kn nx col ro fs') (hE : Else A.S w w') (hJ : Js G G.length col ro kn E []) (hR : Rings G.length nx (vc G col)) (hB : G.length = 0 → Bare w cb A.ob (.int .i64 st) (.bool false) (.pointer (some ⟨A.g, 0, none⟩)) A.K A.N) (hm : cnt G.length col = m) (h2 : GI G) (h3 : Gp G) : CsM O w' cb G E st fs' m := by
  refine ⟨⟨A, kn, nx, col, ro, hC, hJ, hR, fun h0 => ?_, hm⟩, h2, h3⟩
  have hb := hB h0
  rcases hC.sets with h | ⟨_, _, h, _⟩
  · exact (hE.block cb (Array.getElem?_eq_some_iff.1 hb).1 h.ncb).trans hb
  · exact h
theorem CsM.noClash (h : CsM O w cb G E st fs m) : ¬ Clash G E := by
  obtain ⟨⟨A, kn, nx, col, ro, _, hJ, _⟩, _⟩ := h
  exact hJ.jn.noClash
theorem equate_cx (h : CxM w cb st) (k n k' n' : Int) (u u' : Sl) : Calls Tryz.prog 28 #[.pointer (some ⟨cb, 0, none⟩), tyVal k n (slv u), tyVal k' n' (slv u')] w fun e w' => e = .returned (.int .i64 7) ∧ Below w.heap.size w w' := by
  obtain ⟨u1, u2, u3⟩ := u
  obtain ⟨v1, v2, v3⟩ := u'
  have hl : cb < w.heap.size := (Array.getElem?_eq_some_iff.1 h).1
  obtain ⟨w1, hw1⟩ : ∃ w1, (w.alloc (.cells #[.int .i64 k, .int .i64 n, .slice u1 u2 u3] 47)).alloc (.cells #[.int .i64 k', .int .i64 n', .slice v1 v2 v3] 47) = w1 := ⟨_, rfl⟩
  have hb1 : Below w.heap.size w w1 := by rw [← hw1]; exact ((Below.refl _ _).alloc (Nat.le_refl _) _).alloc (by simp) _
  have HER := Lib.hid (err_cx (w := w1) ((hb1.block cb hl).trans h))
  have HB := Lib.hid hb1
  clear h hb1
  dsimp only [tyVal, slv]
  go_enter Tryz.func28, Tryz.ntmps28
  go_wp2_with fail
  refine HER.out.mono ?_
  rintro e w' ⟨rfl, rfl⟩
  go_wp2_with fail
  exact bodyPost_ret (results_tmp rfl _ _ _) rfl ⟨rfl, HB.out⟩
theorem new_cl2 (w : World) : Calls Tryz.prog 27 #[] w fun e w' => ∃ cb A, e = .returned (.pointer (some ⟨cb, 0, none⟩)) ∧ ClM (fun k => w.heap.size ≤ k) w' cb A 0 false 0 [] (fun _ => (none, none)) (fun j => j) (fun j => j) (fun j => j) 0 ∧ Bare w' cb A.ob (.int .i64 0) (.bool false) (.pointer (some ⟨A.g, 0, none⟩)) A.K A.N ∧ Below w.heap.size w w' := by
  have hmm := @run_makeMap Tryz.prog
  have HN := new_graph w
  go_enter Tryz.func27, Tryz.ntmps27
  go_wp2_with fail
  refine HN.mono ?_
  rintro e w1 ⟨g, mb, rfl, hG, hB⟩
  have HG := Lib.hid (And.intro hG hB)
  clear hG hB HN
  go_wp2_with fail
  obtain ⟨hG, hB⟩ := HG.out
  refine bodyPost_ret (results_tmp rfl _ _ _) rfl ?_
  have hb2 : Below w1.heap.size w1 ((w1.alloc (Obj.map #[] 0)).alloc (Obj.cells #[.int .i64 0, .bool false, .pointer (some ⟨g, 0, none⟩), .slice none 0 0, .int .i64 0, .map (some w1.heap.size), .slice none 0 0, .slice none 0 0] 100)) := ((Below.refl _ _).alloc (Nat.le_refl _) _).alloc (by simp) _
  have hlt := hG.lt
  have hge := hG.ge
  have hsz := hB.size
  have hrow : ((w1.alloc (Obj.map #[] 0)).alloc (Obj.cells #[.int .i64 0, .bool false, .pointer (some ⟨g, 0, none⟩), .slice none 0 0, .int .i64 0, .map (some w1.heap.size), .slice none 0 0, .slice none 0 0] 100)).heap[w1.heap.size + 1]? = some (Obj.cells #[.int .i64 0, .bool false, .pointer (some ⟨g, 0, none⟩), .slice none 0 0, .int .i64 0, .map (some w1.heap.size), .slice none 0 0, .slice none 0 0] 100) := by
    have h := heap_alloc_new (w1.alloc (Obj.map #[] 0)) (Obj.cells #[.int .i64 0, .bool false, .pointer (some ⟨g, 0, none⟩), .slice none 0 0, .int .i64 0, .map (some w1.heap.size), .slice none 0 0, .slice none 0 0] 100)
    rwa [World.size_alloc] at h
  refine ⟨_, ⟨g, mb, .slice none 0 0, [], w1.heap.size + 1, 0, 0, w1.heap.size, .slice none 0 0, .slice none 0 0, fun _ => False⟩, rfl, ⟨.inr ⟨rfl, ⟨rfl, rfl⟩, hrow, ?_⟩, (hG.below hb2).zero, World.ownsRow_nil _ _ _ _, World.ownsRow_nil _ _ _ _, ?_, fun k hk => (by cases hk), fun k hk => (by cases hk), ?_, fun k hk => hk.elim⟩, hrow, hB.trans (hb2.mono hsz)⟩
  · exact (MapF.made w1).kept (World.grownBy_alloc _ _ none) (by simp)
  · intro k hk hF
    have h1 : k < w1.heap.size := by
      rcases hk with h | h | h | ⟨x, hx, _⟩
      · have h : k = g := h
        omega
      · have h : k = mb := h
        omega
      · cases h
      · cases hx
    rcases hF with h | h | h | h | h | h
    · exact h
    · omega
    · have h : k = w1.heap.size := h
      omega
    · have h : k = w1.heap.size + 1 := h
      omega
    · cases h
    · cases h
  · intro k hk
    rcases hk with (h | h | h | ⟨x, hx, _⟩) | (h | h | h | h | h | h)
    · have h : k = g := h
      show w.heap.size ≤ k
      omega
    · have h : k = mb := h
      show w.heap.size ≤ k
      omega
    · cases h
    · cases hx
    · exact h.elim
    · show w.heap.size ≤ k
      omega
    · have h : k = w1.heap.size := h
      show w.heap.size ≤ k
      omega
    · have h : k = w1.heap.size + 1 := h
      show w.heap.size ≤ k
      omega
    · cases h
    · cases h
theorem new_cs (w : World) : Calls Tryz.prog 27 #[] w fun e w' => ∃ cb, e = .returned (.pointer (some ⟨cb, 0, none⟩)) ∧ CsM (fun k => w.heap.size ≤ k) w' cb [] [] 0 0 0 ∧ Below w.heap.size w w' := by
  refine (new_cl2 w).mono ?_
  rintro e w' ⟨cb, A, rfl, hC, hb, hB⟩
  have hJ : Js [] 0 (fun j => j) (fun j => j) (fun _ => (none, none)) [] [] :=
    ⟨⟨fun i j hi => by simp at hi, fun a b h => (by cases h), fun a b h => (by cases h), fun x y p q hp => by simp at hp, fun x p hp => by simp at hp⟩, rfl, ⟨fun i j hi => by simp at hi, fun i p hp => by simp at hp, fun i k hi => by simp at hi⟩, ⟨fun i l hi => by omega, fun i v p hi => by omega⟩, fun i hi => by omega, fun i j hi => by omega⟩
  refine ⟨cb, rfl, ⟨⟨A, _, _, _, _, hC, hJ, fun i hi => by simp at hi, fun _ => hb, rfl⟩, fun x hx => (by cases hx), fun x hx => (by cases hx)⟩, hB⟩
end
end Go.Proofs.YtojgiienohpaiaaGreat
namespace Go.Proofs.YtojgiienohpaiaaGreat
open Go.RowKit Go.Shelf
open Un (Else StM rowI UFo own_else dg swp wp_world paint cnt Rings)
set_option maxRecDepth 100000
theorem nm_idn (k n : Int) : nm idn k n = n := by unfold nm; split <;> rfl
theorem Img.gadd {f g : Fo} (h : Img idn f g) : ∀ G, gadd G g = gadd G f := by
  induction f generalizing g with
  | nil => cases g with
    | nil => intro G; rfl
    | cons => exact h.elim
  | cons k n u ps r i1 i2 => cases g with
    | nil => exact h.elim
    | cons k' n' u' ps' r' =>
      obtain ⟨rfl, e, h1, h2⟩ := h
      rw [nm_idn] at e
      subst e
      intro G
      rw [gadd_cons, gadd_cons, gadd1_eq, gadd1_eq, i1 h1, i2 h2]
def AlP : Fo → Prop
  | .nil => True
  | .cons k n _ ps r => alone k n ps.len = true ∧ AlP ps ∧ AlP r
theorem Img.alp {f g : Fo} (h : Img idn f g) (ha : AlP f) : AlP g := by
  induction f generalizing g with
  | nil => cases g with
    | nil => trivial
    | cons => exact h.elim
  | cons k n u ps r i1 i2 => cases g with
    | nil => exact h.elim
    | cons k' n' u' ps' r' =>
      obtain ⟨rfl, e, h1, h2⟩ := h
      rw [nm_idn] at e
      subst e
      exact ⟨by rw [h1.len]; exact ha.1, i1 h1 ha.2.1, i2 h2 ha.2.2⟩
theorem AlP.all {f : Fo} (h : AlP f) (hl : LenOk f) : ∀ x ∈ f.pre, alone x.1 x.2.1 x.2.2.2.1 = true := by
  induction f with
  | nil => intro x hx; simp [Fo.pre] at hx
  | cons k n u ps r i1 i2 =>
    intro x hx
    simp only [Fo.pre, List.mem_cons, List.mem_append] at hx
    rcases hx with rfl | hx | hx
    · show alone k n u.2.1 = true
      rw [hl.1]; exact h.1
    · exact i1 h.2.1 hl.2.1 x hx
    · exact i2 h.2.2 hl.2.2 x hx
theorem Img.wfi {f g : Fo} (h : Img idn f g) (hf : f.wf) : g.wf := by
  induction f generalizing g with
  | nil => cases g with
    | nil => trivial
    | cons => exact h.elim
  | cons k n u ps r i1 i2 => cases g with
    | nil => exact h.elim
    | cons k' n' u' ps' r' =>
      obtain ⟨rfl, e, h1, h2⟩ := h
      rw [nm_idn] at e
      subst e
      exact ⟨hf.1, i1 h1 hf.2.1, i2 h2 hf.2.2⟩
section
variable {O : Nat → Prop} {w : World} {k n : Int} {u : Sl} {ps : Fo} {B : Nat}
theorem TyLat.fresh (h : FreshT 47 B w idn ps u) (hO : ∀ k, O k → k < B) (ha : AlP (Fo.cons k n u ps .nil)) (hwf : (Fo.cons k n u ps .nil).wf) : TyLat O w k n u ps := by
  intro W hE
  obtain ⟨g, hg, hv⟩ := h W hE.size fun b cs hb hl => (hE.block b (Array.getElem?_eq_some_iff.1 hl).1 (fun e => by
    have := (Array.getElem?_eq_some_iff.1 hl).1
    rcases e with e | e
    · have := hO b e; omega
    · omega)).trans hl
  have hI : Img idn (Fo.cons k n u ps .nil) (Fo.cons k n u g .nil) := ⟨rfl, (nm_idn k n).symm, hg, trivial⟩
  refine ⟨g, fun G => ?_, hg.size, hv, hI.wfi hwf, ?_⟩
  · rw [gadd1_eq, gadd1_eq, hg.gadd]
  · have hl : LenOk (Fo.cons k n u g .nil) := ⟨TyV.len hv, (TyV.list hv).lenOk, trivial⟩
    have := (hI.alp ha).all hl
    simpa [allAlone] using this
theorem TyLat.low (h : TyV B w ps (slv u)) (hO : ∀ k, O k → B ≤ k) (hB : B ≤ w.heap.size) (hwf : (Fo.cons k n u ps .nil).wf) (hr : allAlone (Fo.cons k n u ps .nil).pre = true) : TyLat O w k n u ps := by
  intro W hE
  have hb : Below B w W := hE.below (fun j hj => hj.elim (hO j) fun e => by omega) hB
  exact ⟨ps, fun _ => rfl, rfl, (h.below hb).keep (Nat.le_trans hB hb.size) fun _ _ _ => rfl, hwf, hr⟩
theorem TyLat.var (v : Int) (h : 0 ≤ v ∧ v < 1073741824) (hw : (Lit.int .i64 v).wf = true) : TyLat O w 1 v (none, 0, 0) .nil := by
  intro W hE
  refine ⟨.nil, fun _ => rfl, rfl, no_parts _ _, ⟨hw, trivial, trivial⟩, ?_⟩
  · simp [allAlone, Fo.pre, alone, h.1, h.2]
end
def mdl (G : List Gn) (E : List (Nat × Nat)) (val : List Nat) : Bool :=
  (E.all fun e => val[e.1]? == val[e.2]?) && (List.range G.length).all fun x => (List.range G.length).all fun y => match G[x]?, G[y]? with
    | some p, some q => p.1 == 1 || q.1 == 1 || !(val[x]? == val[y]?) || (p.1 == q.1 && p.2.2.2.length == q.2.2.2.length && (pairs p.2.2.2 q.2.2.2).all fun e => val[e.1]? == val[e.2]?)
    | _, _ => true
theorem mdl_is {G : List Gn} {E : List (Nat × Nat)} {val : List Nat} (h : mdl G E val = true) : (∀ a b, (a, b) ∈ E → val[a]? = val[b]?) ∧
    ∀ (x y : Nat) (p q : Gn), G[x]? = some p → G[y]? = some q → p.1 ≠ 1 → q.1 ≠ 1 → val[x]? = val[y]? → Fit p q ∧ ∀ (j a b : Nat), p.2.2.2[j]? = some a → q.2.2.2[j]? = some b → val[a]? = val[b]? := by
  unfold mdl at h
  rw [Bool.and_eq_true] at h
  obtain ⟨h1, h2⟩ := h
  refine ⟨fun a b hab => by simpa using List.all_eq_true.1 h1 (a, b) hab, fun x y p q hp hq p1 q1 hv => ?_⟩
  have h3 := List.all_eq_true.1 (List.all_eq_true.1 h2 x (List.mem_range.2 (lt_of_get hp))) y (List.mem_range.2 (lt_of_get hq))
  rw [hp, hq] at h3
  have e1 : (p.1 == 1) = false := by simpa using p1
  have e2 : (q.1 == 1) = false := by simpa using q1
  have e3 : (val[x]? == val[y]?) = true := by simpa using hv
  simp only [e1, e2, e3, Bool.false_or, Bool.not_true, Bool.and_eq_true, beq_iff_eq] at h3
  exact ⟨⟨h3.1.1, h3.1.2⟩, fun j a b ha hb => by simpa using List.all_eq_true.1 h3.2 (a, b) (mem_pairs.2 ⟨j, ha, hb⟩)⟩
theorem mdl_no {G : List Gn} {E : List (Nat × Nat)} {val : List Nat} (h : mdl G E val = true) : ¬ Clash G E := Clash.model (fun i => val[i]?) (mdl_is h).1 (mdl_is h).2
def exP (k n k' n' : Int) : Fo := .cons k n (none, 0, 0) .nil (.cons k' n' (none, 0, 0) .nil .nil)
def exG1 : List Gn := [(1, 0, 1, []), (2, 0, 1, []), (1, 1, 1, []), (4, 0, 3, [1, 2])]
def exG2 : List Gn := [(1, 0, 1, []), (2, 0, 1, []), (1, 1, 1, []), (4, 0, 3, [1, 2]), (1, 2, 1, []), (3, 0, 1, []), (4, 0, 3, [4, 5])]
end Go.Proofs.YtojgiienohpaiaaGreat
namespace Go.Proofs.YtojgiienohpaiaaGreat
open Go.RowKit Go.Shelf
open Un (Else StM rowI UFo own_else dg swp wp_world paint cnt Rings)
set_option maxRecDepth 100000
theorem CsM.tight {O : Nat → Prop} {w : World} {cb m : Nat} {G : List Gn} {E : List (Nat × Nat)} {st fs : Int} (h : CsM O w cb G E st fs m) : ∃ O' : Nat → Prop, (∀ k, O' k → O k ∧ k < w.heap.size) ∧ CsM O' w cb G E st fs m := by
  obtain ⟨⟨A, kn, nx, col, ro, hC, h2⟩, h3⟩ := h
  exact ⟨fun k => A.D k ∨ A.F cb k, fun k hk => ⟨hC.own k hk, hC.lt hk⟩, ⟨A, kn, nx, col, ro, hC.tight, h2⟩, h3⟩
theorem bnd {d j J : Nat} (hd : d ≤ 21) (hj : j ≤ J) : 4 * (d : Int) * (j : Int) ≤ 84 * (J : Int) := by
  have h : 4 * d * j ≤ 84 * J := Nat.mul_le_mul (by omega) hj
  have h2 : ((4 * d * j : Nat) : Int) ≤ ((84 * J : Nat) : Int) := by exact_mod_cast h
  push_cast at h2
  exact h2
end Go.Proofs.YtojgiienohpaiaaGreat
namespace Go.Proofs.YtojgiienohpaiaaGreat
open Go.RowKit
open Un (Else dg cnt)
set_option maxRecDepth 100000
abbrev Sys := List Gn × List (Nat × Nat)
def stp (s : Sys) (x : Eqn) : Sys := (eqG s.1 x.1.1 x.1.2.1 x.1.2.2.2 x.2.1.1 x.2.1.2.1 x.2.1.2.2.2, eqE s.1 s.2 x.1.1 x.1.2.1 x.1.2.2.2 x.2.1.1 x.2.1.2.1 x.2.1.2.2.2)
def cls (l : List Eqn) : Sys := l.foldl stp ([], [])
theorem cls_app (l m : List Eqn) : cls (l ++ m) = m.foldl stp (cls l) := by simp [cls]
theorem cls_step (l : List Eqn) (j : Nat) (hj : j < l.length) : cls (l.take (j + 1)) = stp (cls (l.take j)) l[j] := by
  rw [List.take_add_one, List.getElem?_eq_getElem hj, cls_app]
  rfl
theorem gnode_pre (G : List Gn) (k n : Int) (P : List Nat) : ∃ X, (gnode G k n P).1 = G ++ X ∧ X.length ≤ 1 := by
  unfold gnode
  split
  · exact ⟨[], by simp, by simp⟩
  · exact ⟨_, rfl, by simp⟩
theorem gadd_pre (F : Fo) : ∀ G, ∃ X, (gadd G F).1 = G ++ X ∧ X.length ≤ F.size := by
  induction F with
  | nil => intro G; exact ⟨[], by simp [gadd_nil], by simp⟩
  | cons k n u ps r i1 i2 =>
    intro G
    obtain ⟨X1, h1, l1⟩ := i1 G
    obtain ⟨X2, h2, l2⟩ := gnode_pre (gadd G ps).1 k n (gadd G ps).2
    rw [← gadd1_eq] at h2
    obtain ⟨X3, h3, l3⟩ := i2 (gadd1 G k n ps).1
    refine ⟨X1 ++ (X2 ++ X3), ?_, ?_⟩
    · rw [gadd_cons]
      show (gadd (gadd1 G k n ps).1 r).1 = _
      rw [h3, h2, h1]
      simp only [List.append_assoc]
    · simp only [List.length_append, Fo.size]
      omega
theorem gadd1_pre (G : List Gn) (k n : Int) (ps : Fo) : ∃ X, (gadd1 G k n ps).1 = G ++ X ∧ X.length ≤ 1 + ps.size := by
  obtain ⟨X, h, l⟩ := gadd_pre (.cons k n (none, 0, 0) ps .nil) G
  rw [gadd_cons, gadd_nil] at h
  exact ⟨X, h, by simpa [Fo.size] using l⟩
theorem stp_pre (s : Sys) (x : Eqn) : (∃ X, (stp s x).1 = s.1 ++ X ∧ X.length ≤ sz1 x) ∧ ∃ Y, (stp s x).2 = s.2 ++ Y := by
  obtain ⟨X1, h1, l1⟩ := gadd1_pre s.1 x.1.1 x.1.2.1 x.1.2.2.2
  obtain ⟨X2, h2, l2⟩ := gadd1_pre (gadd1 s.1 x.1.1 x.1.2.1 x.1.2.2.2).1 x.2.1.1 x.2.1.2.1 x.2.1.2.2.2
  refine ⟨⟨X1 ++ X2, ?_, ?_⟩, _, rfl⟩
  · show (gadd1 (gadd1 s.1 x.1.1 x.1.2.1 x.1.2.2.2).1 x.2.1.1 x.2.1.2.1 x.2.1.2.2.2).1 = _
    rw [h2, h1, List.append_assoc]
  · rw [List.length_append]
    unfold sz1
    omega
theorem fold_pre (m : List Eqn) : ∀ s : Sys, (∃ X, (m.foldl stp s).1 = s.1 ++ X ∧ X.length ≤ esz m) ∧ ∃ Y, (m.foldl stp s).2 = s.2 ++ Y := by
  induction m with
  | nil => intro s; exact ⟨⟨[], by simp, by simp [esz]⟩, [], by simp⟩
  | cons x m ih =>
    intro s
    obtain ⟨⟨X1, h1, l1⟩, Y1, g1⟩ := stp_pre s x
    obtain ⟨⟨X2, h2, l2⟩, Y2, g2⟩ := ih (stp s x)
    refine ⟨⟨X1 ++ X2, ?_, ?_⟩, Y1 ++ Y2, ?_⟩
    · rw [List.foldl_cons, h2, h1, List.append_assoc]
    · have e : esz (x :: m) = sz1 x + esz m := by simp [esz]
      rw [List.length_append, e]
      omega
    · rw [List.foldl_cons, g2, g1, List.append_assoc]
theorem cls_len (l : List Eqn) : (cls l).1.length ≤ esz l := by
  obtain ⟨⟨X, h, hl⟩, _⟩ := fold_pre l ([], [])
  show ((l.foldl stp ([], [])).1).length ≤ _
  rw [h]
  simpa using hl
theorem esz_take (l : List Eqn) (j : Nat) : esz (l.take j) ≤ esz l := by
  have h : esz l = esz (l.take j) + esz (l.drop j) := by
    unfold esz
    rw [← List.sum_append, ← List.map_append, List.take_append_drop]
  omega
theorem esz_rights (l : List Eqn) : esz (rights l) ≤ esz l := by
  induction l with
  | nil => simp [rights, esz]
  | cons x l ih =>
    unfold rights at ih ⊢
    have e : esz (x :: l) = sz1 x + esz l := by simp [esz]
    rw [List.filter_cons, e]
    split
    · have e2 : esz (x :: l.filter rtE) = sz1 x + esz (l.filter rtE) := by simp [esz]
      omega
    · omega
theorem Clash.later {s t : Sys} (hX : ∃ X, t.1 = s.1 ++ X) (hY : ∃ Y, t.2 = s.2 ++ Y) (h : Clash s.1 s.2) : Clash t.1 t.2 := by
  obtain ⟨X, hX⟩ := hX
  obtain ⟨Y, hY⟩ := hY
  refine h.more (fun i p hp => ?_) fun e he => ?_
  · rw [hX]; exact app_get hp
  · rw [hY]; exact List.mem_append_left _ he
def GN (G : List Gn) : Prop := (names G).Nodup ∧ ∀ n ∈ names G, (Lit.int .i64 n).wf = true
theorem gnode_GN {G : List Gn} {k n : Int} {P : List Nat} (h : GN G) (hn : (Lit.int .i64 n).wf = true) : GN (gnode G k n P).1 := by
  unfold gnode
  split
  · exact h
  · rename_i hg
    unfold GN
    rw [names_snoc]
    by_cases hk : k = 1
    · rw [if_pos hk] at hg
      have : n ∉ names G := fun hm => by
        have := (gvar_names _ n).2 hm
        rw [hg] at this
        cases this
      simp only [hk, if_true]
      refine ⟨List.nodup_append.2 ⟨h.1, by simp, fun a ha b hb e => by simp at hb; subst hb; subst e; exact this ha⟩, fun m hm => ?_⟩
      rcases List.mem_append.1 hm with hm | hm
      · exact h.2 m hm
      · simp only [List.mem_singleton] at hm
        subst hm
        exact hn
    · simp only [hk, if_false, List.append_nil]
      exact h
theorem gadd_GN (F : Fo) : ∀ G, GN G → F.wf → GN (gadd G F).1 := by
  induction F with
  | nil => intro G h _; rw [gadd_nil]; exact h
  | cons k n u ps r i1 i2 =>
    intro G h hw
    rw [gadd_cons]
    refine i2 _ ?_ hw.2.2
    rw [gadd1_eq]
    exact gnode_GN (i1 G h hw.2.1) hw.1
theorem gadd1_GN {G : List Gn} {t : Ty1} (h : GN G) (hw : TyW t) : GN (gadd1 G t.1 t.2.1 t.2.2.2).1 := by
  have := gadd_GN (.cons t.1 t.2.1 (none, 0, 0) t.2.2.2 .nil) G h ⟨hw.1, hw.2, trivial⟩
  rw [gadd_cons, gadd_nil] at this
  exact this
theorem fold_GN (m : List Eqn) : ∀ s : Sys, GN s.1 → EqW m → GN (m.foldl stp s).1 := by
  induction m with
  | nil => intro s h _; exact h
  | cons x m ih =>
    intro s h hw
    refine ih _ ?_ fun y hy => hw y (List.mem_cons_of_mem _ hy)
    have hx := hw x List.mem_cons_self
    exact gadd1_GN (t := x.2.1) (gadd1_GN (t := x.1) h hx.1) hx.2
theorem cls_GN (l : List Eqn) (h : EqW l) : GN (cls l).1 := fold_GN l _ ⟨by simp [names], fun n hn => by simp [names] at hn⟩ h
theorem EqW.rights {l : List Eqn} (h : EqW l) : EqW (rights l) := fun x hx => h x (List.mem_filter.1 hx).1
def Clo (O : Nat → Prop) (w : World) (cb : Nat) (s : Sys) (b : Nat) : Prop :=
  (∃ st fs m, CsM O w cb s.1 s.2 st fs m ∧ 0 ≤ st ∧ st ≤ b * 100000000 ∧ 0 ≤ fs ∧ fs ≤ b * 100000000) ∨ (Clash s.1 s.2 ∧ O cb ∧ cb < w.heap.size ∧ ∃ st, CxM w cb st)
section
variable {O T : Nat → Prop} {w w' : World} {cb : Nat} {s : Sys} {b : Nat}
theorem Clo.keep (h : Clo O w cb s b) (he : Else T w w') (ht : ∀ k, O k → ¬ T k) : Clo O w' cb s b := by
  rcases h with ⟨st, fs, m, hC, h2⟩ | ⟨hc, hO, hl, st, hx⟩
  · exact .inl ⟨st, fs, m, hC.keep he ht, h2⟩
  · exact .inr ⟨hc, hO, Nat.lt_of_lt_of_le hl he.size, st, (he.block cb hl (ht cb hO)).trans hx⟩
theorem Clo.tight (h : Clo O w cb s b) : ∃ O' : Nat → Prop, (∀ k, O' k → O k ∧ k < w.heap.size) ∧ Clo O' w cb s b := by
  rcases h with ⟨st, fs, m, hC, h2⟩ | ⟨hc, hO, hl, st, hx⟩
  · obtain ⟨O', h1, h3⟩ := hC.tight
    exact ⟨O', h1, .inl ⟨st, fs, m, h3, h2⟩⟩
  · exact ⟨fun k => k = cb, fun k hk => by subst hk; exact ⟨hO, hl⟩, .inr ⟨hc, rfl, hl, st, hx⟩⟩
theorem equate_clo (h : Clo O w cb s b) (x : Eqn) (hT : TyLat O w x.1.1 x.1.2.1 x.1.2.2.1 x.1.2.2.2) (hT' : TyLat O w x.2.1.1 x.2.1.2.1 x.2.1.2.2.1 x.2.1.2.2.2) (hs : s.1.length + sz1 x ≤ 8000) (hb : b ≤ 500) :
    Calls Tryz.prog 28 #[.pointer (some ⟨cb, 0, none⟩), t1V x.1, t1V x.2.1] w fun e w' => (∃ r, e = .returned (.int .i64 r)) ∧ Clo (fun k => O k ∨ w.heap.size ≤ k) w' cb (stp s x) (b + 1) ∧ Else O w w' := by
  rcases h with ⟨st, fs, m, hC, h1, h2, h3, h4⟩ | ⟨hc, hO, hl, st, hx⟩
  · have hm : m ≤ s.1.length := by
      obtain ⟨⟨A, kn, nx, col, ro, _, _, _, _, hm⟩, _⟩ := hC
      rw [← hm]
      exact Un.cnt_le _ _
    refine (equate_ok hC x.1.1 x.1.2.1 x.2.1.1 x.2.1.2.1 x.1.2.2.1 x.2.1.2.2.1 x.1.2.2.2 x.2.1.2.2.2 hT hT' (by unfold sz1 at hs; omega) (by omega) (by omega)).mono ?_
    rintro e w' ⟨hE, st', j, g1, g2, g3⟩
    have hlen := (stp_pre s x).1
    obtain ⟨X, hX, hXl⟩ := hlen
    have hl2 : (stp s x).1.length ≤ 8000 := by rw [hX, List.length_append]; omega
    have hd : dg (stp s x).1.length ≤ 21 := Un.dg_le (by omega)
    have hle : (stp s x).1.length - s.1.length ≤ 8000 := by omega
    rcases g3 with ⟨rfl, hc, hx, hj⟩ | ⟨rfl, hc, fs', m', hC', f1, f2, hj⟩
    · have hl' : cb < w'.heap.size := (Array.getElem?_eq_some_iff.1 hx).1
      exact ⟨⟨_, rfl⟩, .inr ⟨hc, .inl hC.own, hl', st', hx⟩, hE⟩
    · have hjj : j ≤ 150000 := by
        have e : (stp s x).1.length = (eqG s.1 x.1.1 x.1.2.1 x.1.2.2.2 x.2.1.1 x.2.1.2.1 x.2.1.2.2.2).length := rfl
        omega
      have hbn := bnd hd hjj
      refine ⟨⟨_, rfl⟩, .inl ⟨st', fs', m', hC', by omega, ?_, by omega, ?_⟩, hE⟩
      · have e : dg (stp s x).1.length = dg (eqG s.1 x.1.1 x.1.2.1 x.1.2.2.2 x.2.1.1 x.2.1.2.1 x.2.1.2.2.2).length := rfl
        rw [← e] at g2
        push_cast
        omega
      · have e : dg (stp s x).1.length = dg (eqG s.1 x.1.1 x.1.2.1 x.1.2.2.2 x.2.1.1 x.2.1.2.1 x.2.1.2.2.2).length := rfl
        rw [← e] at f2
        push_cast
        omega
  · refine (equate_cx hx x.1.1 x.1.2.1 x.2.1.1 x.2.1.2.1 x.1.2.2.1 x.2.1.2.2.1).mono ?_
    rintro e w' ⟨rfl, hB⟩
    obtain ⟨⟨X, hX, _⟩, Y, hY⟩ := stp_pre s x
    exact ⟨⟨_, rfl⟩, .inr ⟨hc.later ⟨X, hX⟩ ⟨Y, hY⟩, .inl hO, Nat.lt_of_lt_of_le hl hB.size, st, (hB.block cb hl).trans hx⟩, Else.of_below hB⟩
end
def Two (B : Nat) (w : World) (c d : Nat) (s t : Sys) (b : Nat) : Prop :=
  ∃ Oc Od, Clo Oc w c s b ∧ Clo Od w d t b ∧ (∀ k, Oc k → B ≤ k ∧ k < w.heap.size) ∧ (∀ k, Od k → B ≤ k ∧ k < w.heap.size) ∧ ∀ k, Oc k → ¬ Od k
section
variable {w w' : World} {B b c d : Nat} {s t : Sys}
theorem rt1_right {t : Ty1} (h : rt1 t = true) (hu : t.2.2.1.2.1 = t.2.2.2.len) : allAlone (Fo.cons t.1 t.2.1 t.2.2.1 t.2.2.2 .nil).pre = true := by
  unfold rt1 at h
  rw [Bool.and_eq_true] at h
  unfold allAlone at h ⊢
  simp only [Fo.pre, List.append_nil, List.all_cons, Bool.and_eq_true]
  exact ⟨by rw [hu]; exact h.1, h.2⟩
end
end Go.Proofs.YtojgiienohpaiaaGreat
namespace Go.Proofs.YtojgiienohpaiaaGreat
open Go.RowKit Go.Maps Go.Sort Go.Shelf
set_option maxRecDepth 100000
theorem sortsV (m : Nat) : AnyZI.SortsIn Tryz.prog Tryz.sortedV_ren Fence.wide m :=
  ⟨fun blk off cap ss W hH hblk hsz => callsIn_wide.2 (AnyM.slices_Sort_int Tryz.sortV blk off cap ss W hH hblk hsz),
   fun p cap W => callsIn_wide.2 (AnyM.slices_Sort_int_none Tryz.sortV p cap W)⟩
theorem keys_names {G : List Gn} {b : Nat} {W : World} {k : Nat} {D : DataW Value} (hown : W.ownsMap Tryz.prog 3 heldE b k D) (hnd : (names G).Nodup) (hwf : ∀ n ∈ names G, (Lit.int .i64 n).wf = true)
    (hh : ∀ n : Int, (Lit.int .i64 n).wf = true → has D (.int .i64 n) = (gvf G n).isSome) : (names G).Perm (intKeys D) := by
  obtain ⟨es, hD, hpw, -⟩ := hown.entries lawI
  obtain ⟨es', hD', hko⟩ := hown.keysOf
  obtain rfl : es = es' := by rw [hD] at hD'; simpa using hD'
  subst hD
  have hw := intKeys_wf hown Tryz.underlying3
  refine perm_intKeys hpw (fun p hp => by obtain ⟨v, hv⟩ := hko p hp; obtain ⟨x, _, hx, _⟩ := Maps.keyOf_i64 Tryz.underlying3 hv; exact ⟨x, hx⟩) hnd (fun x => ?_)
  rw [← gvar_names]
  have e2 : (gvf G x).isSome = (gvar G x).isSome := by unfold gvf; cases gvar G x <;> rfl
  constructor
  · intro h
    rw [hh x (hwf x ((gvar_names G x).1 h)), e2]
    exact h
  · intro h
    have hx : x ∈ intKeys (.map es) := by
      rw [has_eq, List.any_eq_true] at h
      obtain ⟨p, hp, hs⟩ := h
      obtain ⟨v, hv⟩ := hko p hp
      obtain ⟨a, _, ha, _⟩ := Maps.keyOf_i64 Tryz.underlying3 hv
      rw [ha] at hs
      exact List.mem_map.2 ⟨p, hp, by rw [ha]; simpa [Lit.sameKey, Go.intOf] using hs⟩
    rw [hh x (hw x hx), e2] at h
    exact h
set_option maxHeartbeats 4000000 in
theorem vars_graph (w : World) (B g mb : Nat) (v : Value) (L : List Nd) (G : List Gn) (hG : GrM B w g v mb L G) (hl : G.length ≤ 1000000) (hnd : (names G).Nodup) (hwf : ∀ n ∈ names G, (Lit.int .i64 n).wf = true) :
    Calls Tryz.prog 58 #[.pointer (some ⟨g, 0, none⟩)] w fun e w' => ∃ v', e = .returned v' ∧ w'.ownsRow w.heap.size 3 1 v' (vsort G).length (ints (vsort G)) ∧ Below w.heap.size w w' := by
  obtain ⟨S, kk, D0, hown, hkk, hT, hS, hh⟩ := hG.vars
  have hperm := keys_names hown hnd hwf (fun n hn => (hh n hn).1)
  have hsz : Maps.size D0 ≤ 1000000 := by
    obtain ⟨es, hD, -⟩ := hown.keysOf
    subst hD
    have h1 := hperm.length_eq
    have h2 : (names G).length ≤ G.length := List.length_filterMap_le _ _
    simp only [intKeys, List.length_map] at h1
    simp only [Maps.size]
    omega
  refine (callsIn_wide (n := 6)).1 ?_
  have hbl := hown.lt
  have hseq : SeqGives Fence.wide 2 Tryz.prog 98 #[.pointer (some ⟨w.heap.size, 0, none⟩)] encZ (fun ss => ss.Perm (intKeys D0)) (Maps.size D0) (w.alloc (.cells #[.map (some mb)] 92)) :=
    AnyZI.keys_gives (ρ := Tryz.keysV_ren) { Tryz.keysV with } Fence.wide _ trivial rfl (by omega) w.heap.size mb kk D0 _ (by simp) (by simp) (by
      obtain ⟨es, clock, hb, Ft, hs, hD⟩ := hown
      exact ⟨es, clock, (Below.heap_alloc _ _ mb hbl).trans hb, Ft, hs, hD⟩)
  have cK : ∀ m W, CallsIn Fence.wide 5 Tryz.prog 82 #[.map m] W fun e w' => e = .returned (.func (.func 98) #[] #[.pointer (some ⟨W.heap.size, 0, none⟩)]) ∧ w' = W.alloc (.cells #[.map m] 92) := fun m W => AnyZI.keys_in Tryz.keysV Fence.wide 5 trivial rfl m W
  have cS := AnyZI.sorted_in Tryz.sortedV Fence.wide 5 trivial trivial trivial trivial rfl (by omega) (sortsV _) (enters_of Tryz.func97 (by kernel_rfl) rfl) 98 #[.pointer (some ⟨w.heap.size, 0, none⟩)] trivial (enters_of Tryz.func98 (by kernel_rfl) rfl) _ _ (by unfold maxLen; omega) (by omega) _ hseq
  change CallsIn _ _ Tryz.prog 81 _ _ _ at cS
  have hfK : Fence.wide.fn 82 := trivial
  have hfS : Fence.wide.fn 81 := trivial
  have g1 : w.cell? ⟨g, 1, none⟩ = some (.map (some mb)) := cell_of_row w _ 1 _ _ (0, 0) hG.cell
  have HP := Lib.hid hperm
  clear hG hown hT hh hperm hseq
  refine callsIn_of_wp Tryz.func58 rfl trivial ?_ rfl
  simp only [Tryz.ntmps58, List.size_toArray, List.length_cons, List.length_nil, Nat.reduceAdd, Nat.reduceSub, Array.replicate_succ, Array.replicate_zero, List.push_toArray, List.append_toArray, List.nil_append, List.cons_append]
  gi_wp2_with (first
    | (gi_at_call 82; refine (cK _ _).mono ?_; rintro e w' ⟨rfl, rfl⟩)
    | (gi_at_call 81; refine cS.mono ?_; rintro e w' ⟨v, ss, rfl, hS, hrow, hnil, hb⟩))
  go_ret
  refine ⟨v, rfl, ?_, ((Below.refl _ w).alloc (Nat.le_refl _) _).trans (hb.mono (by simp))⟩
  have h1 := ownsRow_base_a hrow (show w.heap.size ≤ _ by simp)
  have h2 := vsort_eq G ss (hS.trans HP.out.symm)
  have h3 : ss.length = (vsort G).length := by rw [← h2]; exact (List.mergeSort_perm _ _).length_eq.symm
  rw [h2, h3] at h1
  exact h1
end Go.Proofs.YtojgiienohpaiaaGreat
namespace Go.Proofs.YtojgiienohpaiaaGreat
open Go.RowKit
open Un (Else StM rowI UFo own_else dg swp wp_world paint)
attribute [local go_sem] Oper.semAt_some
set_option maxRecDepth 100000
theorem vsort_var {G : List Gn} {a : Int} (h : a ∈ vsort G) : a ∈ names G ∧ ∃ j, gvar G a = some j ∧ j < G.length := by
  have hp := (vfold G [] List.Pairwise.nil).2
  have hm : a ∈ names G := by have := hp.mem_iff.1 h; simpa using this
  obtain ⟨j, hj⟩ := Option.isSome_iff_exists.1 ((gvar_names G a).2 hm)
  exact ⟨hm, j, hj, gvar_lt hj⟩
theorem var_vsort {G : List Gn} {a : Int} {j : Nat} (h : gvar G a = some j) : a ∈ vsort G := by
  have hp := (vfold G [] List.Pairwise.nil).2
  have hm : a ∈ names G := (gvar_names G a).1 (by rw [h]; rfl)
  exact hp.mem_iff.2 (by simpa using hm)
theorem vsort_le_ (G : List Gn) : (vsort G).length ≤ G.length := by
  have hp := (vfold G [] List.Pairwise.nil).2.length_eq
  have h2 : (names G).length ≤ G.length := List.length_filterMap_le _ _
  have h3 : (vsort G).length = (names G).length := by simpa [vsort] using hp
  omega
section CyFs
variable {O : Nat → Prop} {w : World} {cb : Nat} {A : Adr} {st : Int} {G : List Gn} {kn : Kn} {nx col ro : Nat → Nat} {fs : Int} {gf : FuncId} {lb : Array Value} {T : Nat → Prop} {J : List (Nat × Bool) → Bool → World → Prop}
theorem vars_cl (hC : ClM O w cb A st false G.length G kn nx col ro fs) (hl : G.length ≤ 1000000) (hg : GN G) :
    Calls Tryz.prog 41 #[.pointer (some ⟨cb, 0, none⟩)] w fun e w' => ∃ v', e = .returned v' ∧ w'.ownsRow w.heap.size 3 1 v' (vsort G).length (ints (vsort G)) ∧ Below w.heap.size w w' := by
  obtain ⟨hl0, _, _, _, c2, _, _⟩ := hC.cells
  have HV := Lib.hid (vars_graph w 0 A.g A.mb A.V A.L G hC.gr hl hg.1 hg.2)
  clear hC
  go_enter Tryz.func41, Tryz.ntmps41
  go_wp2_with fail
  refine HV.out.mono ?_
  rintro e w2 ⟨v', rfl, hr, hb⟩
  obtain ⟨Av, cv, rfl, _, _⟩ := Un.own_form hr
  have HR := Lib.hid (And.intro hr hb)
  clear hr hb HV
  go_wp2_with fail
  exact bodyPost_ret (results_tmp rfl _ _ _) rfl ⟨.slice Av (vsort G).length cv, rfl, HR.out.1, HR.out.2⟩
def WkPost (O : Nat → Prop) (cb : Nat) (A : Adr) (st : Int) (G : List Gn) (kn : Kn) (nx col ro : Nat → Nat) (T : Nat → Prop) (J : List (Nat × Bool) → Bool → World → Prop) (fs : Int) (w : World) (x : Ending) (w' : World) : Prop :=
  ∃ (g : Bool) (e : Nat → Option Bool) (S : List (Nat × Nat)) (D : List (Nat × Bool)) (f q : Nat), x = .returned (.int .i64 (q : Nat)) ∧ ClM O w' cb A st false G.length G kn nx col ro (fs + f) ∧ f ≤ 400 * G.length ∧ q ≤ 35 * G.length + 1 ∧ J D g w' ∧ Else (fun k => A.S k ∨ T k) w w' ∧ Dfs (chR G kn ro) e S ∧ Told e S D ∧ (D.map (·.1)).Nodup ∧ (∀ x b, (x, b) ∈ D → x < G.length) ∧ (g = true → S = [] ∧ ∀ v i, gvar G v = some i → ∃ b, (ro i, b) ∈ D)
def WkI (O : Nat → Prop) (cb : Nat) (A : Adr) (st : Int) (G : List Gn) (kn : Kn) (nx col ro : Nat → Nat) (wb mb : Nat) (T : Nat → Prop) (J : List (Nat × Bool) → Bool → World → Prop) (fs : Int) (w2 : World) (j : Nat) (wr : World) : Prop :=
  ∃ (e : Nat → Option Bool) (D : List (Nat × Bool)) (f q m : Nat), ClM O wr cb A st false G.length G kn nx col ro (fs + f) ∧ f ≤ 168 * D.length + 21 * j ∧ WkM wr wb mb e (q : Nat) m ∧ q ≤ j + payD (chR G kn ro) D ∧ m ≤ 2 * D.length ∧ Dfs (chR G kn ro) e [] ∧ Told e [] D ∧ (D.map (·.1)).Nodup ∧ (∀ x b, (x, b) ∈ D → x < G.length) ∧ J D true wr ∧ Else (fun k => (A.S k ∨ k = wb ∨ k = mb) ∨ T k) w2 wr ∧ (∀ t v i, t < j → (vsort G)[t]? = some v → gvar G v = some i → ∃ b, (ro i, b) ∈ D)
set_option maxHeartbeats 8000000 in
theorem walk_any (eg : ∀ args w, (callFunc gf args).run Tryz.prog w = .ok (.enter gf args) w) (hC : ClM O w cb A st false G.length G kn nx col ro fs) (hst : 0 ≤ fs ∧ fs ≤ 20000000000) (hG : G.length ≤ 500000) (hGN : GN G) (hP : Gp G) (hro : ∀ i, i < G.length → ro i < G.length)
    (hT : TellOk gf lb cb G.length (chR G kn ro) T J fun W => ∃ f, ClM O W cb A st false G.length G kn nx col ro f) (hTd : ∀ k, T k → k < w.heap.size ∧ ¬ (A.D k ∨ A.F cb k)) (hJs : ∀ D g (S : Nat → Prop) W W', J D g W → Else S W W' → (∀ k, S k → ¬ T k) → J D g W') (hJ : J [] true w) :
    Calls Tryz.prog 37 #[.pointer (some ⟨cb, 0, none⟩), .func (.func gf) #[] lb] w (WkPost O cb A st G kn nx col ro T J fs w) := by
  have hdg : dg G.length ≤ 21 := Un.dg_le (by omega)
  have hmm := @run_makeMap Tryz.prog
  have H := Lib.hid (And.intro hC (And.intro hst (And.intro hG (And.intro hGN (And.intro hP (And.intro hro hdg))))))
  have HD := Lib.hid (And.intro hT (And.intro hTd (And.intro hJs hJ)))
  clear hC hst hG hGN hP hro hdg hT hTd hJs hJ
  go_enter Tryz.func37, Tryz.ntmps37
  obtain ⟨w1, hw1⟩ : ∃ w1, (w.alloc (Obj.map #[] 0)).alloc (.cells #[.map (some w.heap.size), .int .i64 0] 110) = w1 := ⟨_, rfl⟩
  have hb1 : Below w.heap.size w w1 := by rw [← hw1]; exact ((Below.refl _ _).alloc (Nat.le_refl _) _).alloc (by simp) _
  have hs1 : w1.heap.size = w.heap.size + 2 := by rw [← hw1]; simp
  have hwk : WkM w1 (w.heap.size + 1) w.heap.size (fun _ => none) ((0 : Nat) : Int) 0 := by
    rw [← hw1]
    refine ⟨?_, 0, ?_⟩
    · have h := heap_alloc_new (w.alloc (Obj.map #[] 0)) (.cells #[.map (some w.heap.size), .int .i64 0] 110)
      rw [World.size_alloc] at h
      exact h
    · have h := (MapF.made w).kept (World.grownBy_alloc _ (.cells #[.map (some w.heap.size), .int .i64 0] 110) none) (by simp)
      refine h.ext fun n _ => ?_
      unfold endF
      split <;> rfl
  have HV := Lib.hid (vars_cl (H.out.1.below hb1) (by have := H.out.2.2.1; omega) H.out.2.2.2.1)
  have H1 := Lib.hid (And.intro hb1 (And.intro hs1 hwk))
  have HW1 := Lib.hid hw1
  clear hb1 hs1 hwk hw1
  go_wp2_with fail
  rw [HW1.out]
  refine HV.out.mono ?_
  clear HV
  rintro x w2 ⟨v', rfl, hr, hb2⟩
  obtain ⟨Av, cv, rfl, _, _⟩ := Un.own_form hr
  obtain ⟨vs, hvs⟩ : ∃ l, vsort G = l := ⟨_, rfl⟩
  rw [hvs] at hr ⊢
  have hvl : vs.length ≤ G.length := by rw [← hvs]; exact vsort_le_ G
  have HI0 : WkI O cb A st G kn nx col ro (w.heap.size + 1) w.heap.size T J fs w2 0 w2 := by
    refine ⟨fun _ => none, [], 0, 0, 0, by simpa using (H.out.1.below H1.out.1).below hb2, Nat.zero_le _, H1.out.2.2.keep (S := fun _ => False) (Else.of_below hb2) id id, Nat.zero_le _, Nat.zero_le _, Dfs.none, ⟨fun x b h => by simp at h, fun x b h => by simp at h⟩, by simp, fun x b h => by simp at h, ?_, Else.refl _ _, fun t v i h => by omega⟩
    exact HD.out.2.2.1 [] true (fun _ => False) _ _ HD.out.2.2.2 ((Else.of_below H1.out.1).trans (Else.of_below (hb2.mono (by have := H1.out.2.1; omega)))) fun _ h => h.elim
  have H2 := Lib.hid (And.intro hr (And.intro hb2 (And.intro hvs (And.intro hvl HI0))))
  clear hr hb2 hvs hvl HI0
  go_wp2_with fail
  go_loopw [7, 8, 9, 15] (fun _ _ _ s15 wr => ∃ j : Nat, s15 = .int .i64 (j : Nat) ∧ j ≤ vs.length ∧ WkI O cb A st G kn nx col ro (w.heap.size + 1) w.heap.size T J fs w2 j wr) (fun _ _ _ s _ => vs.length - (intOf s).toNat)
  case atStart => exact ⟨0, rfl, Nat.zero_le _, H2.out.2.2.2.2⟩
  case round =>
    obtain ⟨j, rfl, hj, hI⟩ := hrel
    obtain ⟨e, D, f, q, m, hCr, hf, hWr, hq, hm, hdf, htd, hnd, hdl, hJr, hEr, hkn⟩ := id hI
    have hdn : D.length ≤ G.length := by
      have := nodup_len hnd (fun x hx => by
        obtain ⟨s, hs, rfl⟩ := List.mem_map.1 hx
        exact hdl s.1 s.2 hs)
      simpa using this
    have hvn := H2.out.2.2.2.1
    have hpay := payD_le (chR_le (kn := kn) (ro := ro) (n := G.length) H.out.2.2.2.2.1) D
    have hG5 := H.out.2.2.1
    have HB := Lib.hid (show f ≤ 400 * G.length ∧ q ≤ 35 * G.length ∧ 0 ≤ fs + (f : Int) ∧ fs + (f : Int) ≤ 40000000000 ∧ q ≤ 9000000000 ∧ m ≤ 9000000 ∧ D.length ≤ G.length by have := H.out.2.1; omega)
    have HI := Lib.hid (And.intro hCr (And.intro hf (And.intro hWr (And.intro hq (And.intro hm (And.intro hdf (And.intro htd (And.intro hnd (And.intro hdl (And.intro hJr (And.intro hEr hkn)))))))))))
    clear hCr hf hWr hq hm hdf htd hnd hdl hJr hEr hkn hdn hpay hI
    have hjb : j ≤ 500000 := by omega
    clear hvn hG5
    by_cases hjl : j < vs.length
    · obtain ⟨v, hv⟩ : ∃ v, vs[j]? = some v := ⟨_, List.getElem?_eq_getElem hjl⟩
      obtain ⟨hvm, i, hvi, hil⟩ := vsort_var (G := G) (a := v) (by rw [H2.out.2.2.1]; exact List.mem_of_getElem? hv)
      have hwv := H.out.2.2.2.1.2 v hvm
      have f1 : decide ((j : Int) < (vs.length : Int)) = true := decide_eq_true (by omega)
      have f2 : decide (j < vs.length) = true := decide_eq_true hjl
      have hp0 := H2.out.1
      obtain ⟨bv, cvv, hsh, hbw, hbl⟩ := Un.own_shape hp0 (by omega)
      injection hsh with hA1 _ hcc1
      subst hA1; subst hcc1
      have hvb : w1.heap.size ≤ bv := (hp0.lt bv rfl).1
      have hrowr := own_else hp0 HI.out.2.2.2.2.2.2.2.2.2.2.1 (fun k hk he => by
        have hk : some bv = some k := hk
        injection hk with hk
        have h2 := H1.out.2.1
        rcases he with (he | he | he) | he
        · have := H.out.1.lt (k := k) (.inr (.inl he)); omega
        · omega
        · omega
        · have := (HD.out.2.1 k he).1; omega)
      have z1 : wr.cell? ⟨bv, j, none⟩ = some (.int .i64 v) := (hrowr.cellAt j (by omega)).trans (by simp [ints, hv])
      have HPT := cpart_cl HI.out.1 (by have := HB.out; omega) v hwv (fun z hz => by rw [hvi] at hz; cases hz; exact hil)
      rw [hvi] at HPT
      have HPT := Lib.hid HPT
      have HJL := Lib.hid (And.intro hjl (And.intro hv (And.intro hvi hil)))
      clear hp0 hrowr hvb hbl hbw hv hvi hil hvm hwv
      go_wp2_with fail
      refine HPT.out.mono ?_
      clear HPT
      rintro x w3 ⟨k3, rfl, hk3, hC3, hE3⟩
      obtain ⟨r, hr⟩ : ∃ r, ro i = r := ⟨_, rfl⟩
      rw [hr]
      have hrn : r < G.length := by rw [← hr]; exact H.out.2.2.2.2.2.1 i HJL.out.2.2.2
      unfold ptV
      dsimp only [Option.map_some]
      obtain ⟨w4, hw4⟩ : ∃ w4, w3.alloc (.cells #[.pointer (some ⟨cb, 0, none⟩), .int .i64 (r : Nat)] 78) = w4 := ⟨_, rfl⟩
      have hb4 : Below w3.heap.size w3 w4 := by rw [← hw4]; exact (Below.refl _ _).alloc (Nat.le_refl _) _
      have hE4 : Else A.S wr w4 := hE3.trans (Else.of_below hb4)
      have hC4 := hC3.below hb4
      have hlow : ∀ k, A.D k ∨ A.F cb k → k < w.heap.size := fun k hk => H.out.1.lt hk
      have hW4 := HI.out.2.2.1.keep hE4 (fun h => by have := hlow _ (.inr (.inl h)); omega) (fun h => by have := hlow _ (.inr (.inl h)); omega)
      have hJ4 := HD.out.2.2.1 D true _ _ _ HI.out.2.2.2.2.2.2.2.2.2.1 hE4 (fun k hk hT => (HD.out.2.1 k hT).2 (.inr (.inl hk)))
      have hsz4 : w.heap.size + 2 ≤ w4.heap.size := by have h1 := HI.out.2.2.2.2.2.2.2.2.2.2.1.size; have h2 := hE4.size; have h3 := H2.out.2.1.size; have h4 := H1.out.2.1; omega
      have HFR := from_any eg hC4 hW4 (fun k hk => by have := hlow k hk; exact ⟨by omega, by omega⟩) (by omega) (by have := HB.out; have := H.out.2.2.2.2.2.2; omega) (by have := HB.out; omega) (by have := HB.out; omega) H.out.2.2.2.2.2.2 H.out.2.2.1 r hrn H.out.2.2.2.2.1 H.out.2.2.2.2.2.1 HI.out.2.2.2.2.2.1 HI.out.2.2.2.2.2.2.1 hJ4 HD.out.1 (fun k hk => by have h1 := HD.out.2.1 k hk; exact ⟨by omega, by omega, by omega, h1.2⟩) HD.out.2.2.1 HI.out.2.2.2.2.2.2.2.2.1 HI.out.2.2.2.2.2.2.2.1
      have hbx : w4.heap[w3.heap.size]? = some (.cells #[.pointer (some ⟨cb, 0, none⟩), .int .i64 (r : Nat)] 78) := by rw [← hw4]; exact heap_alloc_new _ _
      have HFR := Lib.hid HFR
      have H4 := Lib.hid (And.intro hk3 (And.intro hE4 (And.intro hr hbx)))
      have HW4 := Lib.hid hw4
      clear hk3 hC3 hE3 hb4 hE4 hC4 hlow hW4 hJ4 hr hbx hrn hw4 hsz4
      go_wp2_with fail
      rw [HW4.out]
      refine HFR.out.mono ?_
      clear HFR
      rintro x w5 ⟨g, e5, S5, D5, f5, q5, m5, rfl, hC5, hW5, ⟨X5, hX5⟩, hf5, hq5, hm5, hJ5, hE5, hdf5, htd5, hlt5, hg5, hnd5, hdl5⟩
      have hE5w : Else (fun k => (A.S k ∨ k = w.heap.size + 1 ∨ k = w.heap.size) ∨ T k) wr w5 := (H4.out.2.1.mono fun k hk => .inl (.inl hk)).trans (hE5.mono fun k hk => by rcases hk with hk | hk | hk | hk; exact .inl (.inl hk); exact .inl (.inr (.inl hk)); exact .inl (.inr (.inr hk)); exact .inr hk)
      have hE5a := HI.out.2.2.2.2.2.2.2.2.2.2.1.trans hE5w
      have H5 := Lib.hid (And.intro hC5 (And.intro hW5 (And.intro hX5 (And.intro hf5 (And.intro hq5 (And.intro hm5 (And.intro hJ5 (And.intro hdf5 (And.intro htd5 (And.intro hlt5 (And.intro hg5 (And.intro hnd5 (And.intro hdl5 hE5a)))))))))))))
      have y1 : w5.cell? ⟨w.heap.size + 1, 1, none⟩ = some (.int .i64 (((q : Nat) : Int) + (q5 : Nat))) := cell_of_row w5 _ 1 _ _ (0, 0) hW5.1
      clear hC5 hW5 hX5 hf5 hq5 hm5 hJ5 hE5 hdf5 htd5 hlt5 hg5 hnd5 hdl5 hE5w hE5a z1 f1 f2
      cases g with
      | true =>
        have hjs := HJL.out.1
        go_wp2_with fail
        go_roundw
        case rel =>
          refine ⟨j + 1, by go_num, HJL.out.1, ?_⟩
          obtain ⟨hC5, hW5, hX5, hf5, hq5, hm5, hJ5, hdf5, htd5, hlt5, hg5, hnd5, hdl5, hE5a⟩ := H5.out
          obtain ⟨rfl, hes⟩ := hg5 (by trivial)
          refine ⟨e5, D5, f + k3 + f5, q + q5, m5, ?_, ?_, ?_, ?_, ?_, hdf5, htd5, hnd5, hdl5, hJ5, hE5a, fun t v2 i2 ht hv2 hi2 => ?_⟩
          · have e1 : fs + ((f + k3 + f5 : Nat) : Int) = fs + f + k3 + f5 := by push_cast; omega
            rw [e1]
            exact hC5
          · have h1 := HI.out.2.1; have h2 := H4.out.1; have h3 := H.out.2.2.2.2.2.2; simp at hf5; omega
          · have e1 : ((q + q5 : Nat) : Int) = (q : Int) + q5 := by push_cast; rfl
            rw [e1]
            exact hW5
          · have h1 := HI.out.2.2.2.1; simp [payS] at hq5; omega
          · have h1 := HI.out.2.2.2.2.1; simp at hm5; omega
          · rcases Nat.lt_or_ge t j with h1 | h1
            · obtain ⟨b, hb⟩ := HI.out.2.2.2.2.2.2.2.2.2.2.2 t v2 i2 h1 hv2 hi2
              exact ⟨b, by rw [hX5]; exact List.mem_append_left _ hb⟩
            · obtain rfl : t = j := by omega
              rw [H2.out.2.2.1, HJL.out.2.1] at hv2
              injection hv2 with hv2
              subst hv2
              rw [HJL.out.2.2.1] at hi2
              injection hi2 with hi2
              subst hi2
              obtain ⟨b, hb⟩ := Option.isSome_iff_exists.1 hes
              exact ⟨b, htd5.all _ b (by rw [H4.out.2.2.1]; exact hb) (fun s hs => by simp at hs)⟩
        case measure => simp [intOf]; omega
      | false =>
        go_wp2_with fail
        refine bodyPost_ret (results_tmp rfl _ _ _) rfl ?_
        obtain ⟨hC5, hW5, hX5, hf5, hq5, hm5, hJ5, hdf5, htd5, hlt5, hg5, hnd5, hdl5, hE5a⟩ := H5.out
        have hdn : D5.length ≤ G.length := by
          have := nodup_len hnd5 (fun x hx => by
            obtain ⟨s, hs, rfl⟩ := List.mem_map.1 hx
            exact hdl5 s.1 s.2 hs)
          simpa using this
        have hsn : S5.length ≤ G.length := by
          have := nodup_len hdf5.nd (fun x hx => by
            obtain ⟨s, hs, rfl⟩ := List.mem_map.1 hx
            exact hlt5 s hs)
          simpa using this
        have h8 := chR_le (kn := kn) (ro := ro) (n := G.length) H.out.2.2.2.2.1
        have p1 := payD_le h8 D5
        have p2 := payS_le h8 S5 hdf5.le
        refine ⟨false, e5, S5, D5, f + k3 + f5, q + q5, by push_cast; rfl, ?_, ?_, ?_, hJ5, ?_, hdf5, htd5, hnd5, hdl5, fun h => by cases h⟩
        · have e1 : fs + ((f + k3 + f5 : Nat) : Int) = fs + f + k3 + f5 := by push_cast; omega
          rw [e1]
          exact hC5
        · have h1 := HI.out.2.1; have h2 := H4.out.1; have h3 := H.out.2.2.2.2.2.2; have h4 := HJL.out.1; have h5 := H2.out.2.2.2.1; omega
        · have h1 := HI.out.2.2.2.1; have h4 := HJL.out.1; have h5 := H2.out.2.2.2.1; omega
        · exact ((((Else.of_below H1.out.1).trans (Else.of_below (H2.out.2.1.mono (by have := H1.out.2.1; omega)))).trans hE5a)).old fun k hk => by rcases hk with (hk | hk | hk) | hk; exact .inl (.inl hk); exact .inr (by omega); exact .inr (by omega); exact .inl (.inr hk)
    · have f1 : decide ((j : Int) < (vs.length : Int)) = false := decide_eq_false (by omega)
      have f2 : decide (j < vs.length) = false := decide_eq_false hjl
      have hje : j = vs.length := by omega
      have y1 : wr.cell? ⟨w.heap.size + 1, 1, none⟩ = some (.int .i64 ((q : Nat) : Int)) := cell_of_row wr _ 1 _ _ (0, 0) HI.out.2.2.1.1
      have HJE := Lib.hid hje
      clear hje
      go_wp2_with fail
      refine bodyPost_ret (results_tmp rfl _ _ _) rfl ?_
      refine ⟨true, e, [], D, f, q, rfl, HI.out.1, by have := HB.out; omega, by have := HB.out; omega, HI.out.2.2.2.2.2.2.2.2.2.1, ?_, HI.out.2.2.2.2.2.1, HI.out.2.2.2.2.2.2.1, HI.out.2.2.2.2.2.2.2.1, HI.out.2.2.2.2.2.2.2.2.1, fun _ => ⟨rfl, fun v i hv => ?_⟩⟩
      · exact ((((Else.of_below H1.out.1).trans (Else.of_below (H2.out.2.1.mono (by have := H1.out.2.1; omega)))).trans HI.out.2.2.2.2.2.2.2.2.2.2.1)).old fun k hk => by rcases hk with (hk | hk | hk) | hk; exact .inl (.inl hk); exact .inr (by omega); exact .inr (by omega); exact .inl (.inr hk)
      · obtain ⟨t, ht, hte⟩ := List.getElem_of_mem (var_vsort hv)
        have hte2 : (vsort G)[t]? = some v := by rw [List.getElem?_eq_getElem ht, hte]
        exact HI.out.2.2.2.2.2.2.2.2.2.2.2 t v i (by rw [HJE.out, ← H2.out.2.2.1]; exact ht) hte2 hv
end CyFs
end Go.Proofs.YtojgiienohpaiaaGreat
namespace Go.Proofs.YtojgiienohpaiaaGreat
open Go.RowKit
open Un (Else dg cnt own_else)
set_option maxRecDepth 100000
section
variable {O T : Nat → Prop} {w w' : World} {cb m : Nat} {G : List Gn} {E : List (Nat × Nat)} {st fs f : Int} {s : Sys} {b : Nat}
def CQ (O : Nat → Prop) (w : World) (cb : Nat) (s : Sys) (f : Int) : Prop := ∃ st fs m, CsM O w cb s.1 s.2 st fs m ∧ 0 ≤ fs ∧ fs ≤ f
end
end Go.Proofs.YtojgiienohpaiaaGreat
namespace Go.Proofs.YtojgiienohpaiaaGreat
open Go.RowKit
open Un (Else dg cnt own_else)
set_option maxRecDepth 100000
end Go.Proofs.YtojgiienohpaiaaGreat
namespace Go.Proofs.YtojgiienohpaiaaGreat
open Go.RowKit Go.Sort
open Un (Else dg cnt own_else Rings Ring Pth)
set_option maxRecDepth 100000
attribute [local go_sem] Oper.semAt_some
attribute [local go_sem ↓] builtin_app
def nmL (G : List Gn) (L : List Nat) : List Int := L.map (nmG G)
theorem gvar_node {G : List Gn} (hg : GN G) {i : Nat} {p : Gn} (hp : G[i]? = some p) (p1 : p.1 = 1) : gvar G p.2.1 = some i := by
  induction G generalizing i with
  | nil => simp at hp
  | cons x G ih =>
    have hn : names (x :: G) = (if x.1 = 1 then [x.2.1] else []) ++ names G := by
      unfold names
      by_cases h : x.1 = 1 <;> simp [h]
    have hg' : GN G := by
      refine ⟨?_, fun n hn' => hg.2 n (by rw [hn]; exact List.mem_append_right _ hn')⟩
      have := hg.1
      rw [hn] at this
      exact (List.nodup_append.1 this).2.1
    cases i with
    | zero =>
      simp only [List.getElem?_cons_zero, Option.some.injEq] at hp
      subst hp
      simp [gvar, p1]
    | succ i =>
      simp only [List.getElem?_cons_succ] at hp
      have hm := ih hg' hp
      simp only [gvar]
      split
      · rename_i hx
        exfalso
        have hmem : p.2.1 ∈ names G := (gvar_names G _).1 (by rw [hm]; rfl)
        have := hg.1
        rw [hn, if_pos hx.1] at this
        exact (List.nodup_append.1 this).2.2 x.2.1 (by simp) p.2.1 hmem hx.2
      · rw [hm]
        rfl
section UzJs
variable {O : Nat → Prop} {w : World} {cb m : Nat} {G : List Gn} {E : List (Nat × Nat)} {st fs : Int}
def ClassIs (G : List Gn) (E : List (Nat × Nat)) (v : Int) (ys : List Int) : Prop := ys.Nodup ∧ ys.Pairwise (· ≤ ·) ∧ ∀ a, a ∈ ys ↔ SameIs G E v a
end UzJs
end Go.Proofs.YtojgiienohpaiaaGreat
