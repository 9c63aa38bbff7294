/- Texts of one proof, one behind the other. -/
import Derived.Test.YtcaclgaaaanfnaaMgUnifyNone14
import Derived.Test.YtcaclgaaaanfnaaMgUnifyNone9
import Derived.Test.YtcaclgaaaanfnaaMgUnifyNone12
/- The visits of a right type, one by one. -/
namespace Go.Proofs.Ytcaclgaaaanfnaa
/-- A variable has no parts. -/
def Vok : Fo → Prop
  | .nil => True
  | .cons k _ _ ps r => (k = 1 → ps = .nil) ∧ Vok ps ∧ Vok r
/-- A variable's node is of the size 1. -/
def GI (G : List Gn) : Prop := ∀ x ∈ G, x.1 = 1 → x.2.2.1 = 1
theorem gsum_nil (G : List Gn) : gsum G [] = 0 := rfl
theorem gsum_cons (G : List Gn) (p : Nat) (P : List Nat) : gsum G (p :: P) = (G[p]?.map (·.2.2.1)).getD 0 + gsum G P := by simp [gsum]
theorem gsum_app (G E : List Gn) (P : List Nat) (h : ∀ p ∈ P, p < G.length) : gsum (G ++ E) P = gsum G P := by
  induction P with
  | nil => rfl
  | cons p P ih =>
    rw [gsum_cons, gsum_cons, ih fun q hq => h q (List.mem_cons_of_mem _ hq), List.getElem?_append_left (h p List.mem_cons_self)]
theorem gvar_at {G : List Gn} {n : Int} {i : Nat} (h : gvar G n = some i) : ∃ x, G[i]? = some x ∧ x.1 = 1 ∧ x.2.1 = n := by
  induction G generalizing i with
  | nil => cases h
  | cons x G ih =>
    simp only [gvar] at h
    split at h
    · rename_i hx
      cases h
      exact ⟨x, rfl, hx⟩
    · obtain ⟨j, hj, rfl⟩ := Option.map_eq_some_iff.1 h
      exact ih hj
theorem gnode_ok (G : List Gn) (k n : Int) (P : List Nat) (hG : GI G) (hk : k = 1 → P = []) :
    (∃ E, (gnode G k n P).1 = G ++ E ∧ E.length ≤ 1) ∧ GI (gnode G k n P).1 ∧ (gnode G k n P).2 < (gnode G k n P).1.length ∧ ((gnode G k n P).1[(gnode G k n P).2]?.map (·.2.2.1)).getD 0 = 1 + gsum G P := by
  unfold gnode
  split
  · rename_i i hi
    split at hi
    · rename_i h1
      obtain ⟨x, hx, hx1, _⟩ := gvar_at hi
      refine ⟨⟨[], by simp, by simp⟩, hG, gvar_lt hi, ?_⟩
      rw [hk h1, hx, gsum_nil]
      have := hG x (List.mem_of_getElem? hx) hx1
      simp [this]
    · cases hi
  · refine ⟨⟨[(k, n, 1 + gsum G P, P)], rfl, by simp⟩, ?_, by simp, by simp⟩
    intro x hx h1
    rcases List.mem_append.1 hx with h | h
    · exact hG x h h1
    · simp only [List.mem_cons, List.not_mem_nil, or_false] at h
      subst h
      simp only at h1
      simp [hk h1, gsum_nil]
/-- What comes of adding. -/
structure Gad (G : List Gn) (F : Fo) : Prop where
  more : ∃ E, (gadd G F).1 = G ++ E ∧ E.length ≤ F.size
  ok : GI (gadd G F).1
  lt : ∀ p ∈ (gadd G F).2, p < (gadd G F).1.length
  sum : gsum (gadd G F).1 (gadd G F).2 = F.size
theorem Vok.nil_of_len {F : Fo} (h : F.len = 0) : F = .nil := by cases F with
  | nil => rfl
  | cons => simp [Fo.len] at h
theorem gadd_ok (F : Fo) : ∀ G, GI G → Vok F → Gad G F := by
  induction F with
  | nil => intro G hG _; exact ⟨⟨[], by simp [gadd_nil], by simp⟩, by rw [gadd_nil]; exact hG, by simp [gadd_nil], by simp [gadd_nil, gsum_nil, Fo.size]⟩
  | cons k n u ps r i1 i2 =>
    intro G hG hv
    obtain ⟨h1, h2, h3⟩ := hv
    obtain ⟨⟨E1, e1, l1⟩, ok1, lt1, s1⟩ := i1 G hG h2
    have hk : k = 1 → (gadd G ps).2 = [] := fun h => by rw [h1 h, gadd_nil]
    obtain ⟨⟨E2, e2, l2⟩, ok2, lt2, s2⟩ := gnode_ok (gadd G ps).1 k n (gadd G ps).2 ok1 hk
    rw [← gadd1_eq] at e2 ok2 lt2 s2
    obtain ⟨⟨E3, e3, l3⟩, ok3, lt3, s3⟩ := i2 (gadd1 G k n ps).1 ok2 h3
    have hlt : (gadd1 G k n ps).2 < (gadd (gadd1 G k n ps).1 r).1.length := by rw [e3, List.length_append]; omega
    refine ⟨⟨E1 ++ (E2 ++ E3), ?_, ?_⟩, ?_, ?_, ?_⟩
    · rw [gadd_cons]
      show (gadd (gadd1 G k n ps).1 r).1 = _
      rw [e3, e2, e1]
      simp only [List.append_assoc]
    · simp only [List.length_append, Fo.size]; omega
    · rw [gadd_cons]; exact ok3
    · rw [gadd_cons]
      intro p hp
      rcases List.mem_cons.1 hp with rfl | hp
      · exact hlt
      · exact lt3 p hp
    · rw [gadd_cons, gsum_cons, s3]
      simp only [e3]
      rw [List.getElem?_append_left lt2, s2, s1]
      simp only [Fo.size]
theorem fold_len (l : List Tr) : ∀ s, (l.foldl gstep s).1.length ≤ s.1.length + l.length ∧ (l.foldl gstep s).2.length ≤ s.2.length + l.length := by
  induction l with
  | nil => intro s; simp
  | cons x l ih =>
    intro s
    have h := ih (gstep s x)
    have h1 : (gstep s x).1.length ≤ s.1.length + 1 := by
      simp only [gstep, gnode]
      split <;> simp
    have h2 : (gstep s x).2.length ≤ s.2.length + 1 := by
      simp only [gstep, List.length_append, List.length_take, List.length_cons, List.length_nil]
      omega
    simp only [List.foldl_cons, List.length_cons]
    omega
/-- What is known where one is visited. -/
structure VOk (N : Nat) (s : List Gn × List Nat) (x : Tr) : Prop where
  len : x.2.2.2.1 ≤ s.2.length
  lt : ∀ p ∈ s.2, p < s.1.length
  sum : gsum s.1 (s.2.drop (s.2.length - x.2.2.2.1)) + 1 ≤ N
theorem visit_ok (F : Fo) : ∀ (G : List Gn) (M : List Nat) (pre : List Tr) (x : Tr) (r : List Tr), GI G → Vok F → LenOk F → (∀ p ∈ M, p < G.length) → pre ++ x :: r = (grO F).reverse → VOk F.size (pre.foldl gstep (G, M)) x := by
  induction F with
  | nil => intro G M pre x r _ _ _ _ h; simp [grO] at h
  | cons k n u ps q i1 i2 =>
    intro G M pre x r hG hv hl hM h
    obtain ⟨v1, v2, v3⟩ := hv
    obtain ⟨l1, l2, l3⟩ := hl
    have e : (grO (.cons k n u ps q)).reverse = (grO ps).reverse ++ (k, n, u) :: (grO q).reverse := by simp [grO]
    rw [e] at h
    obtain ⟨⟨E1, e1, le1⟩, ok1, lt1, s1⟩ := gadd_ok ps G hG v2
    have hk : k = 1 → (gadd G ps).2 = [] := fun h => by rw [v1 h, gadd_nil]
    have hMl : ∀ p ∈ M ++ (gadd G ps).2, p < (gadd G ps).1.length := fun p hp => by
      rcases List.mem_append.1 hp with hp | hp
      · have := hM p hp
        rw [e1, List.length_append]; omega
      · exact lt1 p hp
    have hgl := gadd_len ps G
    have hdrop : (M ++ (gadd G ps).2).drop ((M ++ (gadd G ps).2).length - u.2.1) = (gadd G ps).2 := by
      have hm : (M ++ (gadd G ps).2).length - u.2.1 = M.length := by rw [List.length_append, hgl, l1]; omega
      rw [hm]; simp
    rcases List.append_eq_append_iff.1 h with ⟨a, ha, hb⟩ | ⟨a, ha, hb⟩
    · -- it is the list's, or lies in the parts
      cases a with
      | nil =>
        simp only [List.append_nil, List.nil_append] at ha hb
        injection hb with hx hr
        subst hx
        rw [← ha, gfold ps G M l2]
        refine ⟨?_, hMl, ?_⟩
        · simp only [List.length_append, hgl, l1]; omega
        · simp only [hdrop, s1, Fo.size]; omega
      | cons y a =>
        simp only [List.cons_append] at hb
        injection hb with hx hr
        subst hx
        have := i1 G M pre x a hG v2 l2 hM ha.symm
        exact ⟨this.len, this.lt, by have := this.sum; simp only [Fo.size]; omega⟩
    · cases a with
      | nil =>
        simp only [List.append_nil, List.nil_append] at ha hb
        injection hb with hx hr
        subst hx
        rw [ha, gfold ps G M l2]
        refine ⟨?_, hMl, ?_⟩
        · simp only [List.length_append, hgl, l1]; omega
        · simp only [hdrop, s1, Fo.size]; omega
      | cons y a =>
        simp only [List.cons_append] at hb
        injection hb with hx hr
        subst hx
        obtain ⟨⟨E2, e2, le2⟩, ok2, lt2, s2⟩ := gnode_ok (gadd G ps).1 k n (gadd G ps).2 ok1 hk
        have es : gstep ((gadd G ps).1, M ++ (gadd G ps).2) (k, n, u) = ((gadd1 G k n ps).1, M ++ [(gadd1 G k n ps).2]) := by
          have hm : (M ++ (gadd G ps).2).length - u.2.1 = M.length := by rw [List.length_append, hgl, l1]; omega
          simp only [gstep, hm, gadd1_eq]
          simp
        rw [← gadd1_eq] at e2 ok2 lt2
        have hM2 : ∀ p ∈ M ++ [(gadd1 G k n ps).2], p < (gadd1 G k n ps).1.length := fun p hp => by
          rcases List.mem_append.1 hp with hp | hp
          · have := hM p hp
            rw [e2, e1]; simp only [List.length_append]; omega
          · simp only [List.mem_cons, List.not_mem_nil, or_false] at hp
            subst hp
            exact lt2
        have := i2 (gadd1 G k n ps).1 (M ++ [(gadd1 G k n ps).2]) a x r ok2 v3 l3 hM2 hr.symm
        rw [ha, List.foldl_append, List.foldl_cons, gfold ps G M l2, es]
        exact ⟨this.len, this.lt, by have := this.sum; simp only [Fo.size]; omega⟩
/-- A right type's variables have no parts. -/
theorem vok_of {F : Fo} (h : allAlone F.pre = true) (hl : LenOk F) : Vok F := by
  induction F with
  | nil => trivial
  | cons k n u ps r i1 i2 =>
    obtain ⟨l1, l2, l3⟩ := hl
    have h' : ∀ x ∈ (Fo.cons k n u ps r).pre, alone x.1 x.2.1 x.2.2.2.1 = true := by simpa [allAlone] using h
    have hp : ∀ x ∈ ps.pre, alone x.1 x.2.1 x.2.2.2.1 = true := fun x hx => h' x (by simp [Fo.pre, hx])
    have hr : ∀ x ∈ r.pre, alone x.1 x.2.1 x.2.2.2.1 = true := fun x hx => h' x (by simp [Fo.pre, hx])
    refine ⟨fun hk => ?_, i1 (by simpa [allAlone] using hp) l2, i2 (by simpa [allAlone] using hr) l3⟩
    have := h' (k, n, u) (by simp [Fo.pre])
    subst hk
    simp only [alone, if_true, Bool.and_eq_true, beq_iff_eq] at this
    exact Vok.nil_of_len (by omega)
end Go.Proofs.Ytcaclgaaaanfnaa
/- What stands while a type is added: the graph, and the parts that have no type yet. -/
namespace Go.Proofs.Ytcaclgaaaanfnaa
open Go.RowKit Go.Shelf
set_option maxRecDepth 100000
/-- No node's parts lie in that row. -/
def NoP (r : Option Nat) (L : List Nd) : Prop := ∀ x ∈ L, ∀ b, (slv x.2.2.2).ownBlock = some b → r ≠ some b
theorem NdL.to2 {B : Nat} {w w' : World} {L : List Nd} {G : List Gn} (r : Option Nat) (h : NdL B w L G) (hr : NoP r L) (hk : ∀ (b : Nat) (cs : Array Value), B ≤ b → r ≠ some b → w.heap[b]? = some (Obj.cells cs 3) → w'.heap[b]? = some (Obj.cells cs 3)) : NdL B w' L G := by
  induction L generalizing G with
  | nil => cases G with
    | nil => trivial
    | cons => exact h.elim
  | cons x L ih => cases G with
    | nil => exact h.elim
    | cons y G =>
      obtain ⟨⟨h1, h2, h3, h4⟩, h5⟩ := h
      refine ⟨⟨h1, h2, h3, h4.1, ?_⟩, ih h5 fun z hz => hr z (List.mem_cons_of_mem _ hz)⟩
      rcases h4.2 with h | ⟨g, cap, cur, hv, hb, hg, hq⟩
      · exact .inl h
      · exact .inr ⟨g, cap, cur, hv, hb, hk _ _ hb (hr x List.mem_cons_self g (by rw [hv]; rfl)) hg, hq⟩
theorem GrM.to2 {B : Nat} {w w' : World} {g : Nat} {v : Value} {mb : Nat} {L : List Nd} {G : List Gn} (h : GrM B w g v mb L G) (r : Option Nat) (hr : NoP r L)
    (hg : w'.heap[g]? = w.heap[g]?) (hm : w'.heap[mb]? = w.heap[mb]?) (hv : ∀ b, v.ownBlock = some b → w'.heap[b]? = w.heap[b]?)
    (hk : ∀ (b : Nat) (cs : Array Value), B ≤ b → r ≠ some b → w.heap[b]? = some (Obj.cells cs 3) → w'.heap[b]? = some (Obj.cells cs 3)) : GrM B w' g v mb L G := by
  refine ⟨hg.trans h.cell, ⟨h.row.1, ?_⟩, h.nodes.to2 r hr hk, ?_, h.ge⟩
  · rcases h.row.2 with h2 | ⟨b, cap, cur, hv2, hb, hh, hr2⟩
    · exact .inl h2
    · exact .inr ⟨b, cap, cur, hv2, hb, (hv b (by rw [hv2]; rfl)).trans hh, hr2⟩
  · obtain ⟨S, hv⟩ := h.vars
    exact ⟨S, hv.block hm⟩
theorem NdL.lt_own {B : Nat} {w : World} {L : List Nd} {G : List Gn} (h : NdL B w L G) : ∀ x ∈ L, ∀ b, (slv x.2.2.2).ownBlock = some b → b < w.heap.size ∧ ∃ cs, w.heap[b]? = some (Obj.cells cs 3) := by
  induction L generalizing G with
  | nil => intro x hx; cases hx
  | cons y L ih => cases G with
    | nil => exact h.elim
    | cons z G =>
      obtain ⟨⟨_, _, _, h4⟩, h5⟩ := h
      intro x hx b hb
      rcases List.mem_cons.1 hx with rfl | hx
      · rcases h4.2 with ⟨h, _⟩ | ⟨g, cap, cur, hv, _, hg, _⟩
        · rw [h] at hb; cases hb
        · rw [hv] at hb
          injection hb with hb
          subst hb
          exact ⟨(Array.getElem?_eq_some_iff.1 hg).1, _, hg⟩
      · exact ih h5 x hx b hb
/-- What turned since, beside the graph's own blocks and the row: nothing that lay in w. -/
structure Sin (w W : World) (g mb tb : Nat) (v0 v : Value) : Prop where
  os : W.os = w.os
  tape : W.tape = w.tape
  output : W.output = w.output
  size : w.heap.size ≤ W.heap.size
  block : ∀ b, b < w.heap.size → b ≠ g → b ≠ mb → b ≠ tb → v0.ownBlock ≠ some b → W.heap[b]? = w.heap[b]?
  at_ : v.ownBlock = v0.ownBlock ∨ ∃ b, v.ownBlock = some b ∧ w.heap.size ≤ b
/-- Between two visits: H is the world's size where they began, M where the iterator's own cells begin. -/
def AddI (w : World) (B g mb tb : Nat) (v0 : Value) (L0 : List Nd) (G0 : List Gn) (M : Nat) (pre : List Tr) (W : World) : Prop :=
  ∃ (v mv : Value) (E : List Nd), GrM B W g v mb (L0 ++ E) (pre.foldl gstep (G0, [])).1 ∧ W.heap[tb]? = some (.cells #[mv] 43) ∧
    W.ownsRow M 3 1 mv (pre.foldl gstep (G0, [])).2.length (nums (pre.foldl gstep (G0, [])).2) ∧ NoP mv.ownBlock (L0 ++ E) ∧
    (∀ b, v.ownBlock = some b → b < w.heap.size ∨ M ≤ b) ∧ (∀ x ∈ E, ∀ b, (slv x.2.2.2).ownBlock = some b → w.heap.size ≤ b) ∧ Sin w W g mb tb v0 v
/-- A block that lies there, and isn't the iterator's. -/
theorem Its.keep {M : Nat} {W W' : World} (h : Its M W W') {b : Nat} {o : Obj} (ho : W.heap[b]? = some o) (hb : b < M ∨ (o.isCells = true ∧ ∀ cs, o ≠ .cells cs 165)) : W'.heap[b]? = some o := by
  obtain ⟨row, hg, hr⟩ := h
  rw [hg.block b (Array.getElem?_eq_some_iff.1 ho).1 ?_, ho]
  intro e
  obtain ⟨h1, o', h2, h3⟩ := hr b e.symm
  rw [ho] at h2
  cases h2
  rcases hb with hb | ⟨hb, hc⟩
  · omega
  · rcases h3 with h3 | ⟨cs, h3⟩
    · rw [hb] at h3; cases h3
    · exact hc cs h3
theorem Its.size {M : Nat} {W W' : World} (h : Its M W W') : W.heap.size ≤ W'.heap.size := by obtain ⟨row, hg, hr⟩ := h; exact hg.size
theorem AddI.its {w : World} {B g mb tb : Nat} {v0 : Value} {L0 : List Nd} {G0 : List Gn} (hmb : mb < w.heap.size) {M : Nat} {pre : List Tr} {W W' : World} (hM : w.heap.size ≤ M) (h : AddI w B g mb tb v0 L0 G0 M pre W) (hi : Its M W W') : AddI w B g mb tb v0 L0 G0 M pre W' := by
  obtain ⟨v, mv, E, hG, htb, hmv, hno, hvb, hE, hS⟩ := h
  have k1 := hi.keep hG.cell (.inr ⟨rfl, fun cs e => by injection e with _ e; revert e; decide⟩)
  have k2 := hi.keep htb (.inr ⟨rfl, fun cs e => by injection e with _ e; revert e; decide⟩)
  have kc : ∀ (b : Nat) (cs : Array Value) (t : TypeId), t ≠ 165 → W.heap[b]? = some (Obj.cells cs t) → W'.heap[b]? = some (Obj.cells cs t) := fun b cs t ht hb => hi.keep hb (.inr ⟨rfl, fun cs e => by injection e with _ e; exact ht e⟩)
  have km : W'.heap[mb]? = W.heap[mb]? := by
    have := hG.lt.2
    have h2 : W.heap[mb]? = some W.heap[mb] := Array.getElem?_eq_getElem this
    rw [hi.keep h2 (.inl (by omega)), h2]
  refine ⟨v, mv, E, hG.to (k1.trans hG.cell.symm) km (fun b hb => ?_) (fun b cs _ hb => kc b cs _ (by decide) hb), k2, ⟨hmv.1, ?_⟩, hno, hvb, hE, ⟨?_, ?_, ?_, Nat.le_trans hS.size hi.size, fun b hb h1 h2 h3 h4 => ?_, hS.at_⟩⟩
  · rcases hG.row.2 with ⟨h, _⟩ | ⟨b', cap, cur, hv, _, hh, _⟩
    · rw [h] at hb; cases hb
    · rw [hv] at hb
      injection hb with hb
      subst hb
      exact (kc _ _ _ (by decide) hh).trans hh.symm
  · rcases hmv.2 with h | ⟨b', cap, cur, hv, hb, hh, hr⟩
    · exact .inl h
    · exact .inr ⟨b', cap, cur, hv, hb, kc _ _ _ (by decide) hh, hr⟩
  · obtain ⟨_, hg, _⟩ := hi; exact hg.os.trans hS.os
  · obtain ⟨_, hg, _⟩ := hi; exact hg.tape.trans hS.tape
  · obtain ⟨_, hg, _⟩ := hi; exact hg.output.trans hS.output
  · have h5 := hS.block b hb h1 h2 h3 h4
    have h6 : w.heap[b]? = some w.heap[b] := Array.getElem?_eq_getElem hb
    rw [h6] at h5 ⊢
    exact hi.keep h5 (.inl (by omega))
end Go.Proofs.Ytcaclgaaaanfnaa
