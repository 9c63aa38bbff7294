/- Texts of one proof, one behind the other. -/
import Derived.Test.YtojgiienohpaiaaGreatMgCycleFinds9
import Derived.Test.YtojgiienohpaiaaGreatMgCycleFinds5
import Derived.Test.YtojgiienohpaiaaGreatMgCycleFinds8
import Derived.StillTailTactics
namespace Go.Proofs.YtojgiienohpaiaaGreat
def Vok : Fo → Prop
  | .nil => True
  | .cons k _ _ ps r => (k = 1 → ps = .nil) ∧ Vok ps ∧ Vok r
def GI (G : List Gn) : Prop := ∀ x ∈ G, x.1 = 1 → x.2.2.1 = 1
theorem gsum_nil (G : List Gn) : gsum G [] = 0 := rfl
theorem gsum_cons (G : List Gn) (p : Nat) (P : List Nat) : gsum G (p :: P) = (G[p]?.map (·.2.2.1)).getD 0 + gsum G P := by simp [gsum]
theorem gvar_at {G : List Gn} {n : Int} {i : Nat} (h : gvar G n = some i) : ∃ x, G[i]? = some x ∧ x.1 = 1 ∧ x.2.1 = n := by
  induction G generalizing i with
  | nil => cases h
  | cons x G ih =>
    simp only [gvar] at h
    split at h
    · rename_i hx
      cases h
      exact ⟨x, rfl, hx⟩
    · obtain ⟨j, hj, rfl⟩ := Option.map_eq_some_iff.1 h
      exact ih hj
theorem gnode_ok (G : List Gn) (k n : Int) (P : List Nat) (hG : GI G) (hk : k = 1 → P = []) :
    (∃ E, (gnode G k n P).1 = G ++ E ∧ E.length ≤ 1) ∧ GI (gnode G k n P).1 ∧ (gnode G k n P).2 < (gnode G k n P).1.length ∧ ((gnode G k n P).1[(gnode G k n P).2]?.map (·.2.2.1)).getD 0 = 1 + gsum G P := by
  unfold gnode
  split
  · rename_i i hi
    split at hi
    · rename_i h1
      obtain ⟨x, hx, hx1, _⟩ := gvar_at hi
      refine ⟨⟨[], by simp, by simp⟩, hG, gvar_lt hi, ?_⟩
      rw [hk h1, hx, gsum_nil]
      have := hG x (List.mem_of_getElem? hx) hx1
      simp [this]
    · cases hi
  · refine ⟨⟨[(k, n, 1 + gsum G P, P)], rfl, by simp⟩, ?_, by simp, by simp⟩
    intro x hx h1
    rcases List.mem_append.1 hx with h | h
    · exact hG x h h1
    · simp only [List.mem_cons, List.not_mem_nil, or_false] at h
      subst h
      simp only at h1
      simp [hk h1, gsum_nil]
structure Gad (G : List Gn) (F : Fo) : Prop where
  more : ∃ E, (gadd G F).1 = G ++ E ∧ E.length ≤ F.size
  ok : GI (gadd G F).1
  lt : ∀ p ∈ (gadd G F).2, p < (gadd G F).1.length
  sum : gsum (gadd G F).1 (gadd G F).2 = F.size
theorem Vok.nil_of_len {F : Fo} (h : F.len = 0) : F = .nil := by cases F with
  | nil => rfl
  | cons => simp [Fo.len] at h
theorem gadd_ok (F : Fo) : ∀ G, GI G → Vok F → Gad G F := by
  induction F with
  | nil => intro G hG _; exact ⟨⟨[], by simp [gadd_nil], by simp⟩, by rw [gadd_nil]; exact hG, by simp [gadd_nil], by simp [gadd_nil, gsum_nil, Fo.size]⟩
  | cons k n u ps r i1 i2 =>
    intro G hG hv
    obtain ⟨h1, h2, h3⟩ := hv
    obtain ⟨⟨E1, e1, l1⟩, ok1, lt1, s1⟩ := i1 G hG h2
    have hk : k = 1 → (gadd G ps).2 = [] := fun h => by rw [h1 h, gadd_nil]
    obtain ⟨⟨E2, e2, l2⟩, ok2, lt2, s2⟩ := gnode_ok (gadd G ps).1 k n (gadd G ps).2 ok1 hk
    rw [← gadd1_eq] at e2 ok2 lt2 s2
    obtain ⟨⟨E3, e3, l3⟩, ok3, lt3, s3⟩ := i2 (gadd1 G k n ps).1 ok2 h3
    have hlt : (gadd1 G k n ps).2 < (gadd (gadd1 G k n ps).1 r).1.length := by rw [e3, List.length_append]; omega
    refine ⟨⟨E1 ++ (E2 ++ E3), ?_, ?_⟩, ?_, ?_, ?_⟩
    · rw [gadd_cons]
      show (gadd (gadd1 G k n ps).1 r).1 = _
      rw [e3, e2, e1]
      simp only [List.append_assoc]
    · simp only [List.length_append, Fo.size]; omega
    · rw [gadd_cons]; exact ok3
    · rw [gadd_cons]
      intro p hp
      rcases List.mem_cons.1 hp with rfl | hp
      · exact hlt
      · exact lt3 p hp
    · rw [gadd_cons, gsum_cons, s3]
      simp only [e3]
      rw [List.getElem?_append_left lt2, s2, s1]
      simp only [Fo.size]
theorem fold_len (l : List Tr) : ∀ s, (l.foldl gstep s).1.length ≤ s.1.length + l.length ∧ (l.foldl gstep s).2.length ≤ s.2.length + l.length := by
  induction l with
  | nil => intro s; simp
  | cons x l ih =>
    intro s
    have h := ih (gstep s x)
    have h1 : (gstep s x).1.length ≤ s.1.length + 1 := by
      simp only [gstep, gnode]
      split <;> simp
    have h2 : (gstep s x).2.length ≤ s.2.length + 1 := by
      simp only [gstep, List.length_append, List.length_take, List.length_cons, List.length_nil]
      omega
    simp only [List.foldl_cons, List.length_cons]
    omega
structure VOk (N : Nat) (s : List Gn × List Nat) (x : Tr) : Prop where
  len : x.2.2.2.1 ≤ s.2.length
  lt : ∀ p ∈ s.2, p < s.1.length
  sum : gsum s.1 (s.2.drop (s.2.length - x.2.2.2.1)) + 1 ≤ N
theorem visit_ok (F : Fo) : ∀ (G : List Gn) (M : List Nat) (pre : List Tr) (x : Tr) (r : List Tr), GI G → Vok F → LenOk F → (∀ p ∈ M, p < G.length) → pre ++ x :: r = (grO F).reverse → VOk F.size (pre.foldl gstep (G, M)) x := by
  induction F with
  | nil => intro G M pre x r _ _ _ _ h; simp [grO] at h
  | cons k n u ps q i1 i2 =>
    intro G M pre x r hG hv hl hM h
    obtain ⟨v1, v2, v3⟩ := hv
    obtain ⟨l1, l2, l3⟩ := hl
    have e : (grO (.cons k n u ps q)).reverse = (grO ps).reverse ++ (k, n, u) :: (grO q).reverse := by simp [grO]
    rw [e] at h
    obtain ⟨⟨E1, e1, le1⟩, ok1, lt1, s1⟩ := gadd_ok ps G hG v2
    have hk : k = 1 → (gadd G ps).2 = [] := fun h => by rw [v1 h, gadd_nil]
    have hMl : ∀ p ∈ M ++ (gadd G ps).2, p < (gadd G ps).1.length := fun p hp => by
      rcases List.mem_append.1 hp with hp | hp
      · have := hM p hp
        rw [e1, List.length_append]; omega
      · exact lt1 p hp
    have hgl := gadd_len ps G
    have hdrop : (M ++ (gadd G ps).2).drop ((M ++ (gadd G ps).2).length - u.2.1) = (gadd G ps).2 := by
      have hm : (M ++ (gadd G ps).2).length - u.2.1 = M.length := by rw [List.length_append, hgl, l1]; omega
      rw [hm]; simp
    rcases List.append_eq_append_iff.1 h with ⟨a, ha, hb⟩ | ⟨a, ha, hb⟩
    · -- it is the list's, or lies in the parts
      cases a with
      | nil =>
        simp only [List.append_nil, List.nil_append] at ha hb
        injection hb with hx hr
        subst hx
        rw [← ha, gfold ps G M l2]
        refine ⟨?_, hMl, ?_⟩
        · simp only [List.length_append, hgl, l1]; omega
        · simp only [hdrop, s1, Fo.size]; omega
      | cons y a =>
        simp only [List.cons_append] at hb
        injection hb with hx hr
        subst hx
        have := i1 G M pre x a hG v2 l2 hM ha.symm
        exact ⟨this.len, this.lt, by have := this.sum; simp only [Fo.size]; omega⟩
    · cases a with
      | nil =>
        simp only [List.append_nil, List.nil_append] at ha hb
        injection hb with hx hr
        subst hx
        rw [ha, gfold ps G M l2]
        refine ⟨?_, hMl, ?_⟩
        · simp only [List.length_append, hgl, l1]; omega
        · simp only [hdrop, s1, Fo.size]; omega
      | cons y a =>
        simp only [List.cons_append] at hb
        injection hb with hx hr
        subst hx
        obtain ⟨⟨E2, e2, le2⟩, ok2, lt2, s2⟩ := gnode_ok (gadd G ps).1 k n (gadd G ps).2 ok1 hk
        have es : gstep ((gadd G ps).1, M ++ (gadd G ps).2) (k, n, u) = ((gadd1 G k n ps).1, M ++ [(gadd1 G k n ps).2]) := by
          have hm : (M ++ (gadd G ps).2).length - u.2.1 = M.length := by rw [List.length_append, hgl, l1]; omega
          simp only [gstep, hm, gadd1_eq]
          simp
        rw [← gadd1_eq] at e2 ok2 lt2
        have hM2 : ∀ p ∈ M ++ [(gadd1 G k n ps).2], p < (gadd1 G k n ps).1.length := fun p hp => by
          rcases List.mem_append.1 hp with hp | hp
          · have := hM p hp
            rw [e2, e1]; simp only [List.length_append]; omega
          · simp only [List.mem_cons, List.not_mem_nil, or_false] at hp
            subst hp
            exact lt2
        have := i2 (gadd1 G k n ps).1 (M ++ [(gadd1 G k n ps).2]) a x r ok2 v3 l3 hM2 hr.symm
        rw [ha, List.foldl_append, List.foldl_cons, gfold ps G M l2, es]
        exact ⟨this.len, this.lt, by have := this.sum; simp only [Fo.size]; omega⟩
theorem vok_of {F : Fo} (h : allAlone F.pre = true) (hl : LenOk F) : Vok F := by
  induction F with
  | nil => trivial
  | cons k n u ps r i1 i2 =>
    obtain ⟨l1, l2, l3⟩ := hl
    have h' : ∀ x ∈ (Fo.cons k n u ps r).pre, alone x.1 x.2.1 x.2.2.2.1 = true := by simpa [allAlone] using h
    have hp : ∀ x ∈ ps.pre, alone x.1 x.2.1 x.2.2.2.1 = true := fun x hx => h' x (by simp [Fo.pre, hx])
    have hr : ∀ x ∈ r.pre, alone x.1 x.2.1 x.2.2.2.1 = true := fun x hx => h' x (by simp [Fo.pre, hx])
    refine ⟨fun hk => ?_, i1 (by simpa [allAlone] using hp) l2, i2 (by simpa [allAlone] using hr) l3⟩
    have := h' (k, n, u) (by simp [Fo.pre])
    subst hk
    simp only [alone, if_true, Bool.and_eq_true, beq_iff_eq] at this
    exact Vok.nil_of_len (by omega)
end Go.Proofs.YtojgiienohpaiaaGreat
namespace Go.Proofs.YtojgiienohpaiaaGreat
open Go.RowKit Go.Shelf
set_option maxRecDepth 100000
def NoP (r : Option Nat) (L : List Nd) : Prop := ∀ x ∈ L, ∀ b, (slv x.2.2.2).ownBlock = some b → r ≠ some b
theorem NdL.to2 {B : Nat} {w w' : World} {L : List Nd} {G : List Gn} (r : Option Nat) (h : NdL B w L G) (hr : NoP r L) (hk : ∀ (b : Nat) (cs : Array Value), B ≤ b → r ≠ some b → w.heap[b]? = some (Obj.cells cs 3) → w'.heap[b]? = some (Obj.cells cs 3)) : NdL B w' L G := by
  induction L generalizing G with
  | nil => cases G with
    | nil => trivial
    | cons => exact h.elim
  | cons x L ih => cases G with
    | nil => exact h.elim
    | cons y G =>
      obtain ⟨⟨h1, h2, h3, h4⟩, h5⟩ := h
      refine ⟨⟨h1, h2, h3, h4.1, ?_⟩, ih h5 fun z hz => hr z (List.mem_cons_of_mem _ hz)⟩
      rcases h4.2 with h | ⟨g, cap, cur, hv, hb, hg, hq⟩
      · exact .inl h
      · exact .inr ⟨g, cap, cur, hv, hb, hk _ _ hb (hr x List.mem_cons_self g (by rw [hv]; rfl)) hg, hq⟩
theorem GrM.to2 {B : Nat} {w w' : World} {g : Nat} {v : Value} {mb : Nat} {L : List Nd} {G : List Gn} (h : GrM B w g v mb L G) (r : Option Nat) (hr : NoP r L)
    (hg : w'.heap[g]? = w.heap[g]?) (hm : w'.heap[mb]? = w.heap[mb]?) (hv : ∀ b, v.ownBlock = some b → w'.heap[b]? = w.heap[b]?)
    (hk : ∀ (b : Nat) (cs : Array Value), B ≤ b → r ≠ some b → w.heap[b]? = some (Obj.cells cs 3) → w'.heap[b]? = some (Obj.cells cs 3)) : GrM B w' g v mb L G := by
  refine ⟨hg.trans h.cell, ⟨h.row.1, ?_⟩, h.nodes.to2 r hr hk, ?_, h.ge⟩
  · rcases h.row.2 with h2 | ⟨b, cap, cur, hv2, hb, hh, hr2⟩
    · exact .inl h2
    · exact .inr ⟨b, cap, cur, hv2, hb, (hv b (by rw [hv2]; rfl)).trans hh, hr2⟩
  · obtain ⟨S, hv⟩ := h.vars
    exact ⟨S, hv.block hm⟩
theorem NdL.lt_own {B : Nat} {w : World} {L : List Nd} {G : List Gn} (h : NdL B w L G) : ∀ x ∈ L, ∀ b, (slv x.2.2.2).ownBlock = some b → b < w.heap.size ∧ ∃ cs, w.heap[b]? = some (Obj.cells cs 3) := by
  induction L generalizing G with
  | nil => intro x hx; cases hx
  | cons y L ih => cases G with
    | nil => exact h.elim
    | cons z G =>
      obtain ⟨⟨_, _, _, h4⟩, h5⟩ := h
      intro x hx b hb
      rcases List.mem_cons.1 hx with rfl | hx
      · rcases h4.2 with ⟨h, _⟩ | ⟨g, cap, cur, hv, _, hg, _⟩
        · rw [h] at hb; cases hb
        · rw [hv] at hb
          injection hb with hb
          subst hb
          exact ⟨(Array.getElem?_eq_some_iff.1 hg).1, _, hg⟩
      · exact ih h5 x hx b hb
structure Sin (w W : World) (g mb tb : Nat) (v0 v : Value) : Prop where
  os : W.os = w.os
  tape : W.tape = w.tape
  output : W.output = w.output
  size : w.heap.size ≤ W.heap.size
  block : ∀ b, b < w.heap.size → b ≠ g → b ≠ mb → b ≠ tb → v0.ownBlock ≠ some b → W.heap[b]? = w.heap[b]?
  at_ : v.ownBlock = v0.ownBlock ∨ ∃ b, v.ownBlock = some b ∧ w.heap.size ≤ b
def AddI (w : World) (B g mb tb : Nat) (v0 : Value) (L0 : List Nd) (G0 : List Gn) (M : Nat) (pre : List Tr) (W : World) : Prop :=
  ∃ (v mv : Value) (E : List Nd), GrM B W g v mb (L0 ++ E) (pre.foldl gstep (G0, [])).1 ∧ W.heap[tb]? = some (.cells #[mv] 30) ∧
    W.ownsRow M 3 1 mv (pre.foldl gstep (G0, [])).2.length (nums (pre.foldl gstep (G0, [])).2) ∧ NoP mv.ownBlock (L0 ++ E) ∧
    (∀ b, v.ownBlock = some b → b < w.heap.size ∨ M ≤ b) ∧ (∀ x ∈ E, ∀ b, (slv x.2.2.2).ownBlock = some b → w.heap.size ≤ b) ∧ Sin w W g mb tb v0 v
theorem Its.keep {M : Nat} {W W' : World} (h : Its M W W') {b : Nat} {o : Obj} (ho : W.heap[b]? = some o) (hb : b < M ∨ (o.isCells = true ∧ ∀ cs, o ≠ .cells cs 147)) : W'.heap[b]? = some o := by
  obtain ⟨row, hg, hr⟩ := h
  rw [hg.block b (Array.getElem?_eq_some_iff.1 ho).1 ?_, ho]
  intro e
  obtain ⟨h1, o', h2, h3⟩ := hr b e.symm
  rw [ho] at h2
  cases h2
  rcases hb with hb | ⟨hb, hc⟩
  · omega
  · rcases h3 with h3 | ⟨cs, h3⟩
    · rw [hb] at h3; cases h3
    · exact hc cs h3
theorem Its.size {M : Nat} {W W' : World} (h : Its M W W') : W.heap.size ≤ W'.heap.size := by obtain ⟨row, hg, hr⟩ := h; exact hg.size
theorem AddI.its {w : World} {B g mb tb : Nat} {v0 : Value} {L0 : List Nd} {G0 : List Gn} (hmb : mb < w.heap.size) {M : Nat} {pre : List Tr} {W W' : World} (hM : w.heap.size ≤ M) (h : AddI w B g mb tb v0 L0 G0 M pre W) (hi : Its M W W') : AddI w B g mb tb v0 L0 G0 M pre W' := by
  obtain ⟨v, mv, E, hG, htb, hmv, hno, hvb, hE, hS⟩ := h
  have k1 := hi.keep hG.cell (.inr ⟨rfl, fun cs e => by injection e with _ e; revert e; decide⟩)
  have k2 := hi.keep htb (.inr ⟨rfl, fun cs e => by injection e with _ e; revert e; decide⟩)
  have kc : ∀ (b : Nat) (cs : Array Value) (t : TypeId), t ≠ 147 → W.heap[b]? = some (Obj.cells cs t) → W'.heap[b]? = some (Obj.cells cs t) := fun b cs t ht hb => hi.keep hb (.inr ⟨rfl, fun cs e => by injection e with _ e; exact ht e⟩)
  have km : W'.heap[mb]? = W.heap[mb]? := by
    have := hG.lt.2
    have h2 : W.heap[mb]? = some W.heap[mb] := Array.getElem?_eq_getElem this
    rw [hi.keep h2 (.inl (by omega)), h2]
  refine ⟨v, mv, E, hG.to (k1.trans hG.cell.symm) km (fun b hb => ?_) (fun b cs _ hb => kc b cs _ (by decide) hb), k2, ⟨hmv.1, ?_⟩, hno, hvb, hE, ⟨?_, ?_, ?_, Nat.le_trans hS.size hi.size, fun b hb h1 h2 h3 h4 => ?_, hS.at_⟩⟩
  · rcases hG.row.2 with ⟨h, _⟩ | ⟨b', cap, cur, hv, _, hh, _⟩
    · rw [h] at hb; cases hb
    · rw [hv] at hb
      injection hb with hb
      subst hb
      exact (kc _ _ _ (by decide) hh).trans hh.symm
  · rcases hmv.2 with h | ⟨b', cap, cur, hv, hb, hh, hr⟩
    · exact .inl h
    · exact .inr ⟨b', cap, cur, hv, hb, kc _ _ _ (by decide) hh, hr⟩
  · obtain ⟨_, hg, _⟩ := hi; exact hg.os.trans hS.os
  · obtain ⟨_, hg, _⟩ := hi; exact hg.tape.trans hS.tape
  · obtain ⟨_, hg, _⟩ := hi; exact hg.output.trans hS.output
  · have h5 := hS.block b hb h1 h2 h3 h4
    have h6 : w.heap[b]? = some w.heap[b] := Array.getElem?_eq_getElem hb
    rw [h6] at h5 ⊢
    exact hi.keep h5 (.inl (by omega))
end Go.Proofs.YtojgiienohpaiaaGreat
namespace Go.Proofs.YtojgiienohpaiaaGreat
open Go.RowKit Go.Shelf
attribute [local go_sem ↓] builtin_app
set_option maxRecDepth 100000
theorem nums_drop (P : List Nat) (m : Nat) : nums (P.drop m) = (nums P).drop m := by simp [nums, ints, toI, List.map_drop]
theorem nums_take (P : List Nat) (m : Nat) : nums (P.take m) = (nums P).take m := by simp [nums, ints, toI, List.map_take]
theorem own_drop {w : World} {base : Nat} {e : TypeId} {a n c : Nat} {xs : List Value} (h : w.ownsRow base e 1 (.slice (some ⟨a, 0, none⟩) n c) n xs) (m : Nat) (hm : m ≤ n) : Rd w 1 (.slice (some ⟨a, m, none⟩) (n - m) (c - m)) (n - m) (xs.drop m) := by
  have hlen := h.1
  rcases h.2 with ⟨h0, _⟩ | ⟨g, cap, cur, h0, hb, hg, hnc, hcm, hcs, htake⟩
  · cases h0
  · injection h0 with h1 h2 h3
    injection h1 with h1
    injection h1 with h1
    subst h1; subst h3
    refine ⟨by rw [List.length_drop]; omega, .inr ⟨a, m, c - m, rfl, by omega, by omega, (Array.getElem?_eq_some_iff.1 hg).1, fun j u hu => ?_⟩⟩
    rw [List.getElem?_drop] at hu
    rw [h.cellAt _ (by have := (List.getElem?_eq_some_iff.1 hu).1; omega), hu]
structure AddS (w : World) (B g mb tb : Nat) (v0 : Value) (L0 : List Nd) (M : Nat) (W : World) (v mv : Value) (E : List Nd) (G : List Gn) (P : List Nat) : Prop where
  graph : GrM B W g v mb (L0 ++ E) G
  box : W.heap[tb]? = some (.cells #[mv] 30)
  row : W.ownsRow M 3 1 mv P.length (nums P)
  apart : NoP mv.ownBlock (L0 ++ E)
  at_ : ∀ b, v.ownBlock = some b → b < w.heap.size ∨ M ≤ b
  fresh : ∀ x ∈ E, ∀ b, (slv x.2.2.2).ownBlock = some b → w.heap.size ≤ b
  since : Sin w W g mb tb v0 v
theorem own_ne {w : World} {base : Nat} {e : TypeId} {size : Nat} {v : Value} {n : Nat} {xs : List Value} (h : w.ownsRow base e size v n xs) {b : Nat} {o : Obj} (ho : w.heap[b]? = some o) (hne : ∀ cs, o ≠ .cells cs e) : v.ownBlock ≠ some b := by
  intro hv
  rcases h.2 with ⟨h, _⟩ | ⟨g, cap, cur, h, _, hg, _⟩
  · rw [h] at hv; cases hv
  · rw [h] at hv
    have : g = b := by simpa [Value.ownBlock] using hv
    subst this
    rw [ho] at hg
    injection hg with hg
    exact hne _ hg
set_option maxHeartbeats 1000000 in
theorem add_fin {w : World} {B g mb tb : Nat} {v0 : Value} {L0 : List Nd} {M : Nat} {Z : World} {v : Value} {E : List Nd} {G : List Gn} {P : List Nat} {Am : Option Addr} {cm : Nat} (h : AddS w B g mb tb v0 L0 M Z v (.slice Am P.length cm) E G P)
    (htb : tb < w.heap.size) (hBt : B ≤ tb) (hgw : g < w.heap.size) (hmb : mb < w.heap.size) (htg : tb ≠ g ∧ tb ≠ mb) (hM : w.heap.size ≤ M) (hMZ : M ≤ Z.heap.size) (m : Nat) (hm : m ≤ P.length) (hPl : P.length ≤ 1000000) (i : Nat) :
    ∃ (A5 : Option Addr) (c5 : Nat) (w5 : World), (app_ #[30, 30] 30 #[.slice Am m cm, .slice (some ⟨Z.heap.size, 0, none⟩) 1 1]).run Tryz.prog (Z.alloc (.cells #[.int .i64 (i : Nat)] 3)) = .ok (.slice A5 (m + 1) c5) w5 ∧
      AddS w B g mb tb v0 L0 M (w5.setCell ⟨tb, 0, none⟩ (.slice A5 (m + 1) c5)) v (.slice A5 (m + 1) c5) E G (P.take m ++ [i]) ∧ w5.cell? ⟨tb, 0, none⟩ = some (.slice Am P.length cm) ∧ w5.frozen? ⟨tb, 0, none⟩ = false ∧
      Bt3 B w.heap.size M Z (w5.setCell ⟨tb, 0, none⟩ (.slice A5 (m + 1) c5)) := by
  obtain ⟨Y, hY⟩ : ∃ Y, Z.alloc (.cells #[.int .i64 (i : Nat)] 3) = Y := ⟨_, rfl⟩
  have hbY : Below Z.heap.size Z Y := by rw [← hY]; exact (Below.refl _ _).alloc (Nat.le_refl _) _
  have hsY : Y.heap.size = Z.heap.size + 1 := by rw [← hY]; simp
  have hlm : (toI (P.take m)).length = m := by rw [toI_len, List.length_take]; omega
  have hrow := own_below h.row hbY
  have hcut : Y.ownsRow M 3 1 (.slice Am m cm) (toI (P.take m)).length (ints (toI (P.take m))) := by
    rw [hlm]
    refine own_cut (ys := nums (P.drop m)) ?_ m hm (by show (nums (P.take m)).length = m * 1; rw [nums_len, List.length_take]; omega)
    have e : nums (P.take m) ++ nums (P.drop m) = nums P := by rw [nums_take, nums_drop, List.take_append_drop]
    show Y.ownsRow M 3 1 (.slice Am P.length cm) P.length (nums (P.take m) ++ nums (P.drop m))
    rw [e]; exact hrow
  have hrd : Rd Y 1 (.slice (some ⟨Z.heap.size, 0, none⟩) 1 1) [(i : Int)].length (ints [(i : Int)]) := by
    rw [← hY]
    exact rd_new Z [.int .i64 i] 3 1 1 rfl (by unfold maxLen; omega)
  obtain ⟨v5, w5, run5, own5, b5, -, g5, at5⟩ := app_int Y M _ _ hcut _ _ hrd (by rw [hlm]; simp only [List.length_cons, List.length_nil]; omega) (by omega)
  have hl5 : (toI (P.take m) ++ [(i : Int)]).length = m + 1 := by rw [List.length_append, hlm]; rfl
  rw [hl5] at own5
  obtain ⟨A5, c5, rfl, -, -⟩ := own_form own5
  have hnum : nums (P.take m ++ [i]) = ints (toI (P.take m) ++ [(i : Int)]) := by simp [nums, toI]
  have hPm : (P.take m ++ [i]).length = m + 1 := by rw [List.length_append, List.length_take]; simp; omega
  have hgrow : ∀ b, b < Z.heap.size → Am.map (·.block) ≠ some b → w5.heap[b]? = Z.heap[b]? := fun b hb hne => (g5.block b (by omega) (fun e => hne (by rw [e]; cases Am <;> rfl))).trans (hbY.block b hb)
  have hamO : (Value.slice Am m cm).ownBlock = Am.map (·.block) := by cases Am <;> rfl
  have hamP : (Value.slice Am P.length cm).ownBlock = Am.map (·.block) := by cases Am <;> rfl
  have hne : ∀ {b : Nat} {o : Obj}, Z.heap[b]? = some o → (∀ cs, o ≠ .cells cs 3) → Am.map (·.block) ≠ some b := fun ho hn => by rw [← hamP]; exact own_ne h.row ho hn
  have hAM : ∀ b, Am.map (·.block) = some b → M ≤ b := fun b hb => (h.row.lt b (by rw [hamP]; exact hb)).1
  have hset : ∀ b, b ≠ tb → (w5.setCell ⟨tb, 0, none⟩ (.slice A5 (m + 1) c5)).heap[b]? = w5.heap[b]? := fun b hb => Below.heap_setCell _ _ _ _ hb
  have hsz : (w5.setCell ⟨tb, 0, none⟩ (.slice A5 (m + 1) c5)).heap.size = w5.heap.size := by simp [World.setCell]
  have hk : ∀ b, b < Z.heap.size → b ≠ tb → Am.map (·.block) ≠ some b → (w5.setCell ⟨tb, 0, none⟩ (.slice A5 (m + 1) c5)).heap[b]? = Z.heap[b]? := fun b hb h1 h2 => (hset b h1).trans (hgrow b hb h2)
  have hZsz : w.heap.size ≤ Z.heap.size := h.since.size
  have hbx5 : w5.heap[tb]? = some (.cells #[.slice Am P.length cm] 30) := (hgrow tb (by omega) fun e => by have := hAM tb e; omega).trans h.box
  have hg5s := g5.size
  refine ⟨A5, c5, w5, by rw [hY]; exact run5, ⟨?_, heap_setCell_same w5 tb 0 _ _ _ hbx5, ?_, ?_, h.at_, h.fresh, ⟨g5.os.trans (hbY.os.trans h.since.os), g5.tape.trans (hbY.tape.trans h.since.tape), g5.output.trans (hbY.output.trans h.since.output), by rw [hsz]; omega, fun b hb h1 h2 h3 h4 => (hk b (by omega) h3 fun e => by have := hAM b e; omega).trans (h.since.block b hb h1 h2 h3 h4), h.since.at_⟩⟩, cell_of_row w5 _ 0 _ _ (0, 0) hbx5, frozen_cells hbx5 0, ⟨g5.os.trans hbY.os, g5.tape.trans hbY.tape, g5.output.trans hbY.output, by rw [hsz]; omega, fun b hb hl => ?_, fun b o hb ho hc => ?_⟩⟩
  · refine h.graph.to2 (Am.map (·.block)) (by rw [← hamP]; exact h.apart) (hk g (by omega) htg.1.symm (hne h.graph.cell fun cs e => by injection e with _ e; revert e; decide)) (hk mb (by omega) htg.2.symm fun e => by have := hAM mb e; omega) (fun b hb => hk b (h.graph.row.lt b hb).2 (fun e => ?_) fun e => ?_) (fun b cs _ hr hb => ?_)
    · subst e
      exact own_ne h.graph.row h.box (fun cs e => by injection e with _ e; revert e; decide) hb
    · rcases h.graph.row.2 with ⟨h', _⟩ | ⟨b', cap, cur, hv, _, hh, _⟩
      · rw [h'] at hb; cases hb
      · rw [hv] at hb
        have : b' = b := by simpa [Value.ownBlock] using hb
        subst this
        exact hne hh (fun cs e => by injection e with _ e; revert e; decide) e
    · exact (hk b (Array.getElem?_eq_some_iff.1 hb).1 (fun e => by subst e; rw [h.box] at hb; injection hb with hb; injection hb with _ hb; revert hb; decide) hr).trans hb
  · rw [hPm, hnum]
    refine ⟨own5.1, ?_⟩
    rcases own5.2 with h' | ⟨b, cap, cur, hv, hb, hh, hr⟩
    · exact .inl h'
    · exact .inr ⟨b, cap, cur, hv, hb, (hset b (fun e => by subst e; rw [hbx5] at hh; injection hh with hh; injection hh with _ hh; revert hh; decide)).trans hh, hr⟩
  · intro x hx b hb e
    obtain ⟨hbl, cs, hcs⟩ := h.graph.nodes.lt_own x hx b hb
    rcases at5 with h' | h'
    · rw [h', hamO] at e
      exact h.apart x hx b hb (by rw [hamP]; exact e)
    · rw [h'] at e
      injection e with e
      omega
  · refine hk b hl (fun e => by omega) fun e => by have := hAM b e; omega
  · have hl := (Array.getElem?_eq_some_iff.1 ho).1
    exact (hk b hl (fun e => by omega) (hne ho fun cs e => by subst e; cases hc)).trans ho
theorem AddS.node {w : World} {B g mb tb : Nat} {v0 : Value} {L0 : List Nd} {M : Nat} {W w1 w2 : World} {v v' mv : Value} {E E1 : List Nd} {G G' : List Gn} {P : List Nat} (h : AddS w B g mb tb v0 L0 M W v mv E G P)
    (htb : tb < w.heap.size) (hgw : g < w.heap.size) (hmb : mb < w.heap.size) (htg : tb ≠ g ∧ tb ≠ mb) (hM : w.heap.size ≤ M) (hMW : M ≤ W.heap.size) (hb1 : Below W.heap.size W w1) (hG2 : GrM B w2 g v' mb (L0 ++ E ++ E1) G') (hc : Chg w1 w2 g mb v v')
    (hE1 : ∀ x ∈ E1, ∀ b, (slv x.2.2.2).ownBlock = some b → w1.heap.size ≤ b) : AddS w B g mb tb v0 L0 M w2 v' mv (E ++ E1) G' P ∧ Bt3 B w.heap.size M W w2 := by
  have hs1 := hb1.size
  have hs2 := hc.size
  have hk : ∀ b, b < W.heap.size → b ≠ g → b ≠ mb → v.ownBlock ≠ some b → w2.heap[b]? = W.heap[b]? := fun b hb h1 h2 h3 => (hc.block b (by omega) h1 h2 h3).trans (hb1.block b hb)
  have hwW := h.since.size
  have hvn : ∀ {b : Nat} {o : Obj}, W.heap[b]? = some o → (∀ cs, o ≠ .cells cs 140) → v.ownBlock ≠ some b := fun ho hn => own_ne h.graph.row ho hn
  have hmo : ∃ es ck, W.heap[mb]? = some (Obj.map es ck) := by obtain ⟨_, _, _, ⟨es, ck, h, _⟩, _⟩ := h.graph.vars; exact ⟨es, ck, h⟩
  have hmvl : ∀ b, mv.ownBlock = some b → b < W.heap.size ∧ b ≠ g ∧ b ≠ mb ∧ v.ownBlock ≠ some b := fun b hb => by
    obtain ⟨hh, cs, hcs⟩ : b < W.heap.size ∧ ∃ cs, W.heap[b]? = some (Obj.cells cs 3) := by
      rcases h.row.2 with ⟨h', _⟩ | ⟨b', cap, cur, hv, _, hh, _⟩
      · rw [h'] at hb; cases hb
      · rw [hv] at hb
        have : b' = b := by simpa [Value.ownBlock] using hb
        subst this
        exact ⟨(Array.getElem?_eq_some_iff.1 hh).1, _, hh⟩
    refine ⟨hh, fun e => ?_, fun e => ?_, hvn hcs fun cs e => by injection e with _ e; revert e; decide⟩
    · subst e; rw [h.graph.cell] at hcs; injection hcs with hcs; injection hcs with _ hcs; revert hcs; decide
    · subst e; obtain ⟨_, _, h'⟩ := hmo; rw [h'] at hcs; cases hcs
  have hva : ∀ b, b < w.heap.size → v0.ownBlock ≠ some b → v.ownBlock ≠ some b := fun b hb hn e => by
    rcases h.since.at_ with h' | ⟨b', h', h2⟩
    · rw [h'] at e; exact hn e
    · rw [h'] at e; injection e with e; omega
  have hv' : v'.ownBlock = v.ownBlock ∨ ∃ b, v'.ownBlock = some b ∧ W.heap.size ≤ b := hc.at_.imp id fun ⟨b, e, hb⟩ => ⟨b, e, by omega⟩
  refine ⟨⟨by rw [← List.append_assoc]; exact hG2, (hk tb (by omega) htg.1 htg.2 (hvn h.box fun cs e => by injection e with _ e; revert e; decide)).trans h.box, ⟨h.row.1, ?_⟩, ?_, fun b hb => ?_, fun x hx b hb => ?_,
    ⟨hc.os.trans (hb1.os.trans h.since.os), hc.tape.trans (hb1.tape.trans h.since.tape), hc.output.trans (hb1.output.trans h.since.output), by omega, fun b hb h1 h2 h3 h4 => (hk b (by omega) h1 h2 (hva b hb h4)).trans (h.since.block b hb h1 h2 h3 h4), ?_⟩⟩,
    ⟨hc.os.trans hb1.os, hc.tape.trans hb1.tape, hc.output.trans hb1.output, by omega, fun b hb hl => ?_, fun b o hb ho hcl => ?_⟩⟩
  · rcases h.row.2 with h' | ⟨b, cap, cur, hv, hb, hh, hr⟩
    · exact .inl h'
    · obtain ⟨k0, k1, k2, k3⟩ := hmvl b (by rw [hv]; rfl)
      exact .inr ⟨b, cap, cur, hv, hb, (hk b k0 k1 k2 k3).trans hh, hr⟩
  · intro x hx b hb e
    rw [← List.append_assoc] at hx
    rcases List.mem_append.1 hx with hx | hx
    · exact h.apart x hx b hb e
    · have := hE1 x hx b hb
      have := (hmvl b e).1
      omega
  · rcases hv' with h' | ⟨b', h', h2⟩
    · exact h.at_ b (by rw [← h']; exact hb)
    · rw [h'] at hb; injection hb with hb; exact .inr (by omega)
  · rcases List.mem_append.1 hx with hx | hx
    · exact h.fresh x hx b hb
    · have := hE1 x hx b hb; omega
  · rcases hv' with h' | ⟨b', h', h2⟩
    · rw [h']; exact h.since.at_
    · exact .inr ⟨b', h', by omega⟩
  · have hge := h.graph.ge
    refine hk b hl (by omega) (by omega) fun e => ?_
    have h1 := (h.graph.row.lt b e).1
    have h2 := h.at_ b e
    omega
  · have hl := (Array.getElem?_eq_some_iff.1 ho).1
    exact (hk b hl (by omega) (by omega) (hvn ho fun cs e => by subst e; cases hcl)).trans ho
set_option maxHeartbeats 4000000 in
theorem add1_any (w : World) (B g mb tb gb : Nat) (v0 : Value) (L0 : List Nd) (G0 : List Gn) (hgb : w.heap[gb]? = some (.cells #[.pointer (some ⟨g, 0, none⟩)] 90)) (hne : gb ≠ g ∧ gb ≠ mb ∧ gb ≠ tb ∧ v0.ownBlock ≠ some gb)
    (hmb : mb < w.heap.size) (hgw : g < w.heap.size) (htbB : B ≤ tb ∧ tb < w.heap.size) (htg : tb ≠ g ∧ tb ≠ mb)
    (M : Nat) (pre : List Tr) (x : Tr) (W : World) (hM : w.heap.size ≤ M) (hMW : M ≤ W.heap.size) (hI : AddI w B g mb tb v0 L0 G0 M pre W) (_hB : B ≤ w.heap.size)
    (N : Nat) (hv : VOk N (pre.foldl gstep (G0, [])) x) (hN : N ≤ 1000000) (hn : (Lit.int .i64 x.2.1).wf = true) (hl1 : (pre.foldl gstep (G0, [])).1.length ≤ 1000000) (hl2 : (pre.foldl gstep (G0, [])).2.length ≤ 1000000) :
    Calls Tryz.prog 66 #[trV x, .pointer (some ⟨tb, 0, none⟩), .pointer (some ⟨gb, 0, none⟩)] W fun e W' => (∃ v, e = .returned v) ∧ AddI w B g mb tb v0 L0 G0 M (pre ++ [x]) W' ∧ Bt3 B w.heap.size M W W' := by
  obtain ⟨v, mv, E, hG, htb, hmv, hno, hvb, hE, hS⟩ := hI
  have hgbW : W.heap[gb]? = some (.cells #[.pointer (some ⟨g, 0, none⟩)] 90) := (hS.block gb (Array.getElem?_eq_some_iff.1 hgb).1 hne.1 hne.2.1 hne.2.2.1 hne.2.2.2).trans hgb
  have hstep : (pre ++ [x]).foldl gstep (G0, []) = gstep (pre.foldl gstep (G0, [])) x := by rw [List.foldl_append]; rfl
  unfold AddI
  rw [hstep]
  obtain ⟨⟨G, P⟩, hs⟩ : ∃ s, pre.foldl gstep (G0, []) = s := ⟨_, rfl⟩
  rw [hs] at hG hmv hv hl1 hl2 ⊢
  dsimp only at hG hmv hl1 hl2 ⊢
  obtain ⟨k, n, x1, x2, x3⟩ := x
  obtain ⟨v1, v2, v3⟩ := hv
  dsimp only at v1 v2 v3 hn
  dsimp only [gstep]
  obtain ⟨m, hm⟩ : ∃ m, P.length - x2 = m := ⟨_, rfl⟩
  have hmle : m ≤ P.length := by omega
  have hmx : (P.length : Int) - (x2 : Int) = (m : Int) := by omega
  rw [hm] at v3 ⊢
  obtain ⟨Am, cm, rfl, hcm, _⟩ := own_form hmv
  dsimp only [trV, slv]
  obtain ⟨w1, hw1⟩ : ∃ w1, W.alloc (.cells #[.int .i64 k, .int .i64 n, .slice x1 x2 x3] 47) = w1 := ⟨_, rfl⟩
  have hb1 : Below W.heap.size W w1 := by rw [← hw1]; exact (Below.refl _ _).alloc (Nat.le_refl _) _
  have hs1 : w1.heap.size = W.heap.size + 1 := by rw [← hw1]; simp
  have hB1 : w1.heap[W.heap.size]? = some (.cells #[.int .i64 k, .int .i64 n, .slice x1 x2 x3] 47) := by rw [← hw1]; exact heap_alloc_new _ _
  have c0 : w1.cell? ⟨W.heap.size, 0, none⟩ = some (.int .i64 k) := cell_of_row w1 _ 0 _ _ (0, 0) hB1
  have c1 : w1.cell? ⟨W.heap.size, 1, none⟩ = some (.int .i64 n) := cell_of_row w1 _ 1 _ _ (0, 0) hB1
  have c2 : w1.cell? ⟨W.heap.size, 2, none⟩ = some (.slice x1 x2 x3) := cell_of_row w1 _ 2 _ _ (0, 0) hB1
  have htb1 : w1.heap[tb]? = some (.cells #[.slice Am P.length cm] 30) := (hb1.block _ (by omega)).trans htb
  have t0 : w1.cell? ⟨tb, 0, none⟩ = some (.slice Am P.length cm) := cell_of_row w1 _ 0 _ _ (0, 0) htb1
  have hgb1 : w1.heap[gb]? = some (.cells #[.pointer (some ⟨g, 0, none⟩)] 90) := (hb1.block _ (Array.getElem?_eq_some_iff.1 hgbW).1).trans hgbW
  have b0 : w1.cell? ⟨gb, 0, none⟩ = some (.pointer (some ⟨g, 0, none⟩)) := cell_of_row w1 _ 0 _ _ (0, 0) hgb1
  have f1 : IntKind.i64.wrap ((P.length : Int) - (x2 : Int)) = (m : Int) := by rw [hmx]; exact IntWalk.i64_in _ (by omega)
  have HAS := Lib.hid (show AddS w B g mb tb v0 L0 M W v (.slice Am P.length cm) E G P from ⟨hG, htb, hmv, hno, hvb, hE, hS⟩)
  have HA := Lib.hid hG
  have HH := Lib.hid hmv
  have HB1 := Lib.hid hb1
  have HBB := Lib.hid (And.intro htbB (And.intro hgw (And.intro hmb (And.intro htg (And.intro hM hMW)))))
  clear hG hmv
  cases Am with
  | none =>
    obtain ⟨hP0, hcm0⟩ : P.length = 0 ∧ cm = 0 := by
      rcases HH.out.2 with ⟨h, h2⟩ | ⟨g', _, _, h, _⟩
      · injection h with _ h3 h4; exact ⟨h2, h4⟩
      · injection h with h; cases h
    obtain rfl : P = [] := List.eq_nil_of_length_eq_zero hP0
    obtain rfl : x2 = 0 := by simp only [List.length_nil] at v1; omega
    obtain rfl : m = 0 := by omega
    subst hcm0
    dsimp only [List.length_nil] at t0 f1 HAS HH ⊢
    go_enter Tryz.func66, Tryz.ntmps66
    go_wp2_with fail
    go_still_tail 5, (by kernel_rfl)
    change wpList _ _ _ _ _ w1.drew
    have hd : Below w1.heap.size w1 w1.drew := (Below.refl _ _).drew
    have hG1 := (HA.out.below hb1).below hd
    have hcall := node_graph w1.drew B g mb v (L0 ++ E) G hG1 (by have := hb1.size; simp only [World.drew]; omega) k n (x1, 0, x3) hn [] (.slice none 0 0) ⟨rfl, .inl ⟨rfl, _, _, rfl⟩⟩ (fun p hp => by cases hp) (by rw [gsum_nil]; omega) hl1 (by simp)
    dsimp only [tyVal, slv] at hcall
    have HC := Lib.hid hcall
    clear hcall hG1 hd
    go_wp2_with fail
    with_reducible refine HC.out.mono ?_
    rintro e w2 ⟨v', L', rfl, hG2, hc2, E1, rfl, hE1⟩
    obtain ⟨k1, k2, k3, k4, k5, k6⟩ := HBB.out
    obtain ⟨hA2, hT2⟩ := HAS.out.node k1.2 k2 k3 k4 k5 k6 HB1.out.drew hG2 hc2 hE1
    obtain ⟨i, hi⟩ : ∃ i, (gnode G k n []).2 = i := ⟨_, rfl⟩
    rw [hi]
    obtain ⟨A5, c5, w5, run5, hA5, e5, z5, hT5⟩ := add_fin hA2 k1.2 k1.1 k2 k3 k4 k5 (Nat.le_trans k6 hT2.size) 0 hmle hl2 i
    have t2 : w2.cell? ⟨tb, 0, none⟩ = some (.slice none 0 0) := cell_of_row w2 _ 0 _ _ (0, 0) hA2.box
    have HF := Lib.hid (And.intro hA5 (hT2.trans hT5))
    have HI := Lib.hid hi
    clear hG2 hc2 hE1 hA2 hT2 hA5 hT5 hi
    go_wp2_with fail
    obtain ⟨hA5, hT5⟩ := HF.out
    obtain ⟨r1, r2, r3, r4, r5, r6, r7⟩ := hA5
    exact ⟨rfl, _, results_none rfl _ _ _, ⟨_, rfl⟩, ⟨_, _, _, r1, r2, (by rw [← HI.out] at r3; exact r3), r4, r5, r6, r7⟩, hT5⟩
  | some am =>
    obtain ⟨ab, rfl⟩ : ∃ ab, am = ⟨ab, 0, none⟩ := by
      rcases HH.out.2 with ⟨h, _⟩ | ⟨g', _, _, h, _⟩
      · cases h
      · injection h with h _ _; injection h with h; exact ⟨g', h⟩
    go_enter Tryz.func66, Tryz.ntmps66
    go_wp2_with fail
    go_still_tail 5, (by kernel_rfl)
    change wpList _ _ _ _ _ w1.drew
    have hd : Below w1.heap.size w1 w1.drew := (Below.refl _ _).drew
    have hG1 := (HA.out.below hb1).below hd
    have hR1 := (own_drop (own_below HH.out hb1) m hmle).below hd
    have hdl : (nums P).drop m = nums (P.drop m) := (nums_drop P m).symm
    have hpl : P.length - m = (P.drop m).length := by rw [List.length_drop]
    rw [hdl, hpl] at hR1
    have hcall := node_graph w1.drew B g mb v (L0 ++ E) G hG1 (by have := hb1.size; simp only [World.drew]; omega) k n (x1, x2, x3) hn (P.drop m) _ hR1 (fun p hp => v2 p (List.mem_of_mem_drop hp)) (by omega) hl1 (by rw [List.length_drop]; omega)
    dsimp only [tyVal, slv] at hcall
    rw [← hpl] at hcall
    have HC := Lib.hid hcall
    have hR2 : m = cm → Rd w1.drew 1 (.slice (some ⟨ab, 0, none⟩) (P.length - m) 0) (P.drop m).length (nums (P.drop m)) := fun e => by
      have hm0 : P.length - m = 0 := by omega
      have hdn : P.drop m = [] := List.drop_eq_nil_of_le (by omega)
      rw [hm0, hdn]
      exact ⟨rfl, .inl ⟨rfl, _, _, rfl⟩⟩
    have hc2 := fun e : m = cm => node_graph w1.drew B g mb v (L0 ++ E) G hG1 (by have := hb1.size; simp only [World.drew]; omega) k n (x1, x2, x3) hn (P.drop m) _ (hR2 e) (fun p hp => v2 p (List.mem_of_mem_drop hp)) (by omega) hl1 (by rw [List.length_drop]; omega)
    dsimp only [tyVal, slv] at hc2
    have HC2 := Lib.hid hc2
    clear hc2
    have hmz : (0 : Int) ≤ (m : Int) := by omega
    have hmc : m ≤ cm := by omega
    clear hcall hG1 hR1 hR2 hdl hpl hd
    go_wp2_with fail
    all_goals
      first
        | with_reducible refine HC.out.mono ?_
        | with_reducible refine (HC2.out (by first | rfl | omega)).mono ?_
    all_goals
      rintro e w2 ⟨v', L', rfl, hG2, hc2, E1, rfl, hE1⟩
      obtain ⟨k1, k2, k3, k4, k5, k6⟩ := HBB.out
      obtain ⟨hA2, hT2⟩ := HAS.out.node k1.2 k2 k3 k4 k5 k6 HB1.out.drew hG2 hc2 hE1
      obtain ⟨i, hi⟩ : ∃ i, (gnode G k n (P.drop m)).2 = i := ⟨_, rfl⟩
      rw [hi]
      obtain ⟨A5, c5, w5, run5, hA5, e5, z5, hT5⟩ := add_fin hA2 k1.2 k1.1 k2 k3 k4 k5 (Nat.le_trans k6 hT2.size) m hmle hl2 i
      first | (rw [show cm = m from (by omega)] at run5) | skip
      have t2 : w2.cell? ⟨tb, 0, none⟩ = some (.slice (some ⟨ab, 0, none⟩) P.length _) := cell_of_row w2 _ 0 _ _ (0, 0) hA2.box
      have HF := Lib.hid (And.intro hA5 (hT2.trans hT5))
      have HI := Lib.hid hi
      clear hG2 hc2 hE1 hA2 hT2 hA5 hT5 hi
      go_wp2_with fail
    all_goals first | skip | (rw [run5]; go_wp2_with fail)
    all_goals
      obtain ⟨hA5, hT5⟩ := HF.out
      rw [← HI.out] at hA5
      obtain ⟨r1, r2, r3, r4, r5, r6, r7⟩ := hA5
      exact ⟨rfl, _, results_none rfl _ _ _, ⟨_, rfl⟩, ⟨_, _, _, r1, r2, r3, r4, r5, r6, r7⟩, hT5⟩
end Go.Proofs.YtojgiienohpaiaaGreat
