/- Texts of one proof, one behind the other. -/
import Derived.Test.YtbnpmeaaaecciaaGreatMgUnifyClasses7
import Derived.Test.YtbnpmeaaaecciaaGreatMgUnifyClasses5
import Derived.Test.YtbnpmeaaaecciaaGreatMgUnifyClasses1
import Derived.Test.YtbnpmeaaaecciaaGreatMgUnifyClasses6
import Derived.Test.YtbnpmeaaaecciaaGreatMgUnifyClasses2
import Derived.Test.YtbnpmeaaaecciaaGreatMgUnifyClasses3
import Derived.Deep.DeepCutAuto
import Derived.Deep.RegionWith
import Derived.Lib.SliceRun
import Derived.OrdersHeld
import Derived.Deep.RegionHeld3
import Derived.Below
import Derived.WalkKit
/- What the visits come to. -/
namespace Go.Proofs.YtbnpmeaaaecciaaGreat
/-- Each slice is as long as its parts. -/
def LenOk : Fo → Prop
  | .nil => True
  | .cons _ _ u ps r => u.2.1 = ps.len ∧ LenOk ps ∧ LenOk r
theorem gadd_nil (G : List Gn) : gadd G .nil = (G, []) := by simp [gadd]
theorem gadd_cons (G : List Gn) (k n : Int) (u : Sl) (ps r : Fo) : gadd G (.cons k n u ps r) = ((gadd (gadd1 G k n ps).1 r).1, (gadd1 G k n ps).2 :: (gadd (gadd1 G k n ps).1 r).2) := by simp [gadd]
theorem gadd1_eq (G : List Gn) (k n : Int) (ps : Fo) : gadd1 G k n ps = gnode (gadd G ps).1 k n (gadd G ps).2 := by simp [gadd1]
theorem gadd_len (F : Fo) : ∀ G, (gadd G F).2.length = F.len := by
  induction F with
  | nil => intro G; simp [gadd_nil, Fo.len]
  | cons k n u ps r _ ih => intro G; rw [gadd_cons]; simp [Fo.len, ih]
/-- One behind the other, they are the types' nodes. -/
theorem gfold (F : Fo) : ∀ (G : List Gn) (M : List Nat), LenOk F → (grO F).reverse.foldl gstep (G, M) = ((gadd G F).1, M ++ (gadd G F).2) := by
  induction F with
  | nil => intro G M _; simp [grO, gadd_nil]
  | cons k n u ps r i1 i2 =>
    intro G M h
    obtain ⟨h1, h2, h3⟩ := h
    have e : (grO (.cons k n u ps r)).reverse = (grO ps).reverse ++ (k, n, u) :: (grO r).reverse := by simp [grO]
    rw [e, List.foldl_append, List.foldl_cons, i1 G M h2]
    have hl := gadd_len ps G
    have es : gstep ((gadd G ps).1, M ++ (gadd G ps).2) (k, n, u) = ((gadd1 G k n ps).1, M ++ [(gadd1 G k n ps).2]) := by
      have hm : (M ++ (gadd G ps).2).length - u.2.1 = M.length := by rw [List.length_append, hl, h1]; omega
      simp only [gstep, hm, gadd1_eq]
      simp
    rw [es, i2 _ _ h3, gadd_cons]
    simp
/-- A type's slices are as long as its parts. -/
theorem TyL.lenOk {B : Nat} {w : World} {f : Fo} (h : TyL B w f) : LenOk f := by
  induction f with
  | nil => trivial
  | cons k n u ps r i1 i2 => exact ⟨TyV.len (u := u) h.1, i1 (TyV.list h.1), i2 h.2⟩
end Go.Proofs.YtbnpmeaaaecciaaGreat
/- The visits of a right type, one by one. -/
namespace Go.Proofs.YtbnpmeaaaecciaaGreat
/-- A variable has no parts. -/
def Vok : Fo → Prop
  | .nil => True
  | .cons k _ _ ps r => (k = 1 → ps = .nil) ∧ Vok ps ∧ Vok r
/-- A variable's node is of the size 1. -/
def GI (G : List Gn) : Prop := ∀ x ∈ G, x.1 = 1 → x.2.2.1 = 1
theorem gsum_nil (G : List Gn) : gsum G [] = 0 := rfl
theorem gsum_cons (G : List Gn) (p : Nat) (P : List Nat) : gsum G (p :: P) = (G[p]?.map (·.2.2.1)).getD 0 + gsum G P := by simp [gsum]
theorem gsum_app (G E : List Gn) (P : List Nat) (h : ∀ p ∈ P, p < G.length) : gsum (G ++ E) P = gsum G P := by
  induction P with
  | nil => rfl
  | cons p P ih =>
    rw [gsum_cons, gsum_cons, ih fun q hq => h q (List.mem_cons_of_mem _ hq), List.getElem?_append_left (h p List.mem_cons_self)]
theorem gvar_at {G : List Gn} {n : Int} {i : Nat} (h : gvar G n = some i) : ∃ x, G[i]? = some x ∧ x.1 = 1 ∧ x.2.1 = n := by
  induction G generalizing i with
  | nil => cases h
  | cons x G ih =>
    simp only [gvar] at h
    split at h
    · rename_i hx
      cases h
      exact ⟨x, rfl, hx⟩
    · obtain ⟨j, hj, rfl⟩ := Option.map_eq_some_iff.1 h
      exact ih hj
theorem gnode_ok (G : List Gn) (k n : Int) (P : List Nat) (hG : GI G) (hk : k = 1 → P = []) :
    (∃ E, (gnode G k n P).1 = G ++ E ∧ E.length ≤ 1) ∧ GI (gnode G k n P).1 ∧ (gnode G k n P).2 < (gnode G k n P).1.length ∧ ((gnode G k n P).1[(gnode G k n P).2]?.map (·.2.2.1)).getD 0 = 1 + gsum G P := by
  unfold gnode
  split
  · rename_i i hi
    split at hi
    · rename_i h1
      obtain ⟨x, hx, hx1, _⟩ := gvar_at hi
      refine ⟨⟨[], by simp, by simp⟩, hG, gvar_lt hi, ?_⟩
      rw [hk h1, hx, gsum_nil]
      have := hG x (List.mem_of_getElem? hx) hx1
      simp [this]
    · cases hi
  · refine ⟨⟨[(k, n, 1 + gsum G P, P)], rfl, by simp⟩, ?_, by simp, by simp⟩
    intro x hx h1
    rcases List.mem_append.1 hx with h | h
    · exact hG x h h1
    · simp only [List.mem_cons, List.not_mem_nil, or_false] at h
      subst h
      simp only at h1
      simp [hk h1, gsum_nil]
/-- What comes of adding. -/
structure Gad (G : List Gn) (F : Fo) : Prop where
  more : ∃ E, (gadd G F).1 = G ++ E ∧ E.length ≤ F.size
  ok : GI (gadd G F).1
  lt : ∀ p ∈ (gadd G F).2, p < (gadd G F).1.length
  sum : gsum (gadd G F).1 (gadd G F).2 = F.size
theorem Vok.nil_of_len {F : Fo} (h : F.len = 0) : F = .nil := by cases F with
  | nil => rfl
  | cons => simp [Fo.len] at h
theorem gadd_ok (F : Fo) : ∀ G, GI G → Vok F → Gad G F := by
  induction F with
  | nil => intro G hG _; exact ⟨⟨[], by simp [gadd_nil], by simp⟩, by rw [gadd_nil]; exact hG, by simp [gadd_nil], by simp [gadd_nil, gsum_nil, Fo.size]⟩
  | cons k n u ps r i1 i2 =>
    intro G hG hv
    obtain ⟨h1, h2, h3⟩ := hv
    obtain ⟨⟨E1, e1, l1⟩, ok1, lt1, s1⟩ := i1 G hG h2
    have hk : k = 1 → (gadd G ps).2 = [] := fun h => by rw [h1 h, gadd_nil]
    obtain ⟨⟨E2, e2, l2⟩, ok2, lt2, s2⟩ := gnode_ok (gadd G ps).1 k n (gadd G ps).2 ok1 hk
    rw [← gadd1_eq] at e2 ok2 lt2 s2
    obtain ⟨⟨E3, e3, l3⟩, ok3, lt3, s3⟩ := i2 (gadd1 G k n ps).1 ok2 h3
    have hlt : (gadd1 G k n ps).2 < (gadd (gadd1 G k n ps).1 r).1.length := by rw [e3, List.length_append]; omega
    refine ⟨⟨E1 ++ (E2 ++ E3), ?_, ?_⟩, ?_, ?_, ?_⟩
    · rw [gadd_cons]
      show (gadd (gadd1 G k n ps).1 r).1 = _
      rw [e3, e2, e1]
      simp only [List.append_assoc]
    · simp only [List.length_append, Fo.size]; omega
    · rw [gadd_cons]; exact ok3
    · rw [gadd_cons]
      intro p hp
      rcases List.mem_cons.1 hp with rfl | hp
      · exact hlt
      · exact lt3 p hp
    · rw [gadd_cons, gsum_cons, s3]
      simp only [e3]
      rw [List.getElem?_append_left lt2, s2, s1]
      simp only [Fo.size]
theorem fold_len (l : List Tr) : ∀ s, (l.foldl gstep s).1.length ≤ s.1.length + l.length ∧ (l.foldl gstep s).2.length ≤ s.2.length + l.length := by
  induction l with
  | nil => intro s; simp
  | cons x l ih =>
    intro s
    have h := ih (gstep s x)
    have h1 : (gstep s x).1.length ≤ s.1.length + 1 := by
      simp only [gstep, gnode]
      split <;> simp
    have h2 : (gstep s x).2.length ≤ s.2.length + 1 := by
      simp only [gstep, List.length_append, List.length_take, List.length_cons, List.length_nil]
      omega
    simp only [List.foldl_cons, List.length_cons]
    omega
/-- What is known where one is visited. -/
structure VOk (N : Nat) (s : List Gn × List Nat) (x : Tr) : Prop where
  len : x.2.2.2.1 ≤ s.2.length
  lt : ∀ p ∈ s.2, p < s.1.length
  sum : gsum s.1 (s.2.drop (s.2.length - x.2.2.2.1)) + 1 ≤ N
theorem visit_ok (F : Fo) : ∀ (G : List Gn) (M : List Nat) (pre : List Tr) (x : Tr) (r : List Tr), GI G → Vok F → LenOk F → (∀ p ∈ M, p < G.length) → pre ++ x :: r = (grO F).reverse → VOk F.size (pre.foldl gstep (G, M)) x := by
  induction F with
  | nil => intro G M pre x r _ _ _ _ h; simp [grO] at h
  | cons k n u ps q i1 i2 =>
    intro G M pre x r hG hv hl hM h
    obtain ⟨v1, v2, v3⟩ := hv
    obtain ⟨l1, l2, l3⟩ := hl
    have e : (grO (.cons k n u ps q)).reverse = (grO ps).reverse ++ (k, n, u) :: (grO q).reverse := by simp [grO]
    rw [e] at h
    obtain ⟨⟨E1, e1, le1⟩, ok1, lt1, s1⟩ := gadd_ok ps G hG v2
    have hk : k = 1 → (gadd G ps).2 = [] := fun h => by rw [v1 h, gadd_nil]
    have hMl : ∀ p ∈ M ++ (gadd G ps).2, p < (gadd G ps).1.length := fun p hp => by
      rcases List.mem_append.1 hp with hp | hp
      · have := hM p hp
        rw [e1, List.length_append]; omega
      · exact lt1 p hp
    have hgl := gadd_len ps G
    have hdrop : (M ++ (gadd G ps).2).drop ((M ++ (gadd G ps).2).length - u.2.1) = (gadd G ps).2 := by
      have hm : (M ++ (gadd G ps).2).length - u.2.1 = M.length := by rw [List.length_append, hgl, l1]; omega
      rw [hm]; simp
    rcases List.append_eq_append_iff.1 h with ⟨a, ha, hb⟩ | ⟨a, ha, hb⟩
    · -- it is the list's, or lies in the parts
      cases a with
      | nil =>
        simp only [List.append_nil, List.nil_append] at ha hb
        injection hb with hx hr
        subst hx
        rw [← ha, gfold ps G M l2]
        refine ⟨?_, hMl, ?_⟩
        · simp only [List.length_append, hgl, l1]; omega
        · simp only [hdrop, s1, Fo.size]; omega
      | cons y a =>
        simp only [List.cons_append] at hb
        injection hb with hx hr
        subst hx
        have := i1 G M pre x a hG v2 l2 hM ha.symm
        exact ⟨this.len, this.lt, by have := this.sum; simp only [Fo.size]; omega⟩
    · cases a with
      | nil =>
        simp only [List.append_nil, List.nil_append] at ha hb
        injection hb with hx hr
        subst hx
        rw [ha, gfold ps G M l2]
        refine ⟨?_, hMl, ?_⟩
        · simp only [List.length_append, hgl, l1]; omega
        · simp only [hdrop, s1, Fo.size]; omega
      | cons y a =>
        simp only [List.cons_append] at hb
        injection hb with hx hr
        subst hx
        obtain ⟨⟨E2, e2, le2⟩, ok2, lt2, s2⟩ := gnode_ok (gadd G ps).1 k n (gadd G ps).2 ok1 hk
        have es : gstep ((gadd G ps).1, M ++ (gadd G ps).2) (k, n, u) = ((gadd1 G k n ps).1, M ++ [(gadd1 G k n ps).2]) := by
          have hm : (M ++ (gadd G ps).2).length - u.2.1 = M.length := by rw [List.length_append, hgl, l1]; omega
          simp only [gstep, hm, gadd1_eq]
          simp
        rw [← gadd1_eq] at e2 ok2 lt2
        have hM2 : ∀ p ∈ M ++ [(gadd1 G k n ps).2], p < (gadd1 G k n ps).1.length := fun p hp => by
          rcases List.mem_append.1 hp with hp | hp
          · have := hM p hp
            rw [e2, e1]; simp only [List.length_append]; omega
          · simp only [List.mem_cons, List.not_mem_nil, or_false] at hp
            subst hp
            exact lt2
        have := i2 (gadd1 G k n ps).1 (M ++ [(gadd1 G k n ps).2]) a x r ok2 v3 l3 hM2 hr.symm
        rw [ha, List.foldl_append, List.foldl_cons, gfold ps G M l2, es]
        exact ⟨this.len, this.lt, by have := this.sum; simp only [Fo.size]; omega⟩
/-- A right type's variables have no parts. -/
theorem vok_of {F : Fo} (h : allAlone F.pre = true) (hl : LenOk F) : Vok F := by
  induction F with
  | nil => trivial
  | cons k n u ps r i1 i2 =>
    obtain ⟨l1, l2, l3⟩ := hl
    have h' : ∀ x ∈ (Fo.cons k n u ps r).pre, alone x.1 x.2.1 x.2.2.2.1 = true := by simpa [allAlone] using h
    have hp : ∀ x ∈ ps.pre, alone x.1 x.2.1 x.2.2.2.1 = true := fun x hx => h' x (by simp [Fo.pre, hx])
    have hr : ∀ x ∈ r.pre, alone x.1 x.2.1 x.2.2.2.1 = true := fun x hx => h' x (by simp [Fo.pre, hx])
    refine ⟨fun hk => ?_, i1 (by simpa [allAlone] using hp) l2, i2 (by simpa [allAlone] using hr) l3⟩
    have := h' (k, n, u) (by simp [Fo.pre])
    subst hk
    simp only [alone, if_true, Bool.and_eq_true, beq_iff_eq] at this
    exact Vok.nil_of_len (by omega)
end Go.Proofs.YtbnpmeaaaecciaaGreat
/- The answer's In. -/
namespace Go.Proofs.YtbnpmeaaaecciaaGreat
open Go.RowKit

end Go.Proofs.YtbnpmeaaaecciaaGreat
/- Variables: the plain facts; an append of numbers; the answer's Vars. -/
namespace Go.Proofs.YtbnpmeaaaecciaaGreat
open Go.RowKit Go.Shelf
attribute [local go_sem ↓] builtin_app
theorem intInfo : (Tryz.prog.info? 3).map (fun i => (i.zero, i.size, i.bytes)) = some (some (.int .i64 0), 1, 8) := by kernel_rfl
def ints (L : List Int) : List Value := L.map (Value.int .i64)
theorem ints_len (L : List Int) : (ints L).length = L.length := by simp [ints]
theorem ints_app (a b : List Int) : ints (a ++ b) = ints a ++ ints b := by simp [ints]
theorem ints_one (L : List Int) : ∀ u ∈ ints L, u.oneCell' = true := by
  intro u hu
  obtain ⟨x, _, rfl⟩ := List.mem_map.1 hu
  rfl
/-- An append of numbers. -/
theorem app_int (W : World) (base : Nat) (v : Value) (L : List Int) (own : W.ownsRow base 3 1 v L.length (ints L)) (vx : Value) (L2 : List Int) (rd : Rd W 1 vx L2.length (ints L2)) (hl : L.length + L2.length ≤ 100000000) (hbase : base ≤ W.heap.size) :
    ∃ v' W', (app_ #[41, 41] 41 #[v, vx]).run Tryz.prog W = .ok v' W' ∧ W'.ownsRow base 3 1 v' (L ++ L2).length (ints (L ++ L2)) ∧ Below base W W' ∧ KeepT 30 W W' ∧ W.grownBy W' v.ownBlock ∧ (v'.ownBlock = v.ownBlock ∨ v'.ownBlock = some W.heap.size) := by
  obtain ⟨i0, hi0, hz0, hz1, hz2⟩ := info_parts intInfo
  obtain ⟨v1, w1, hrun, hown, hg, hat⟩ := run_append_rd (P := Tryz.prog) W base 41 41 3 i0 _ 1 8 Tryz.underlying41 hi0 hz0 hz1 hz2 rfl (by omega) v _ _ own vx _ _ rd (ints_one _) (by unfold maxLen; omega) (by omega) hbase
  refine ⟨v1, w1, hrun, ?_, (Below.refl _ _).grown hg hbase (fun k e => (own.lt k e).1), KeepT.grown hg (row_not own (by decide)), hg, hat⟩
  rw [List.length_append, ints_app]
  exact hown
/-- One type's variable, behind others. -/
def addV (l : List Int) (x : Tr) : List Int := if x.1 = 1 ∧ ¬ x.2.1 ∈ l then l ++ [x.2.1] else l
def varsL (l : List Int) (L : List Tr) : List Int := L.foldl addV l
theorem varsL_len (L : List Tr) (l : List Int) : (varsL l L).length ≤ l.length + L.length := by
  induction L generalizing l with
  | nil => simp [varsL]
  | cons x r ih =>
    have h := ih (addV l x)
    have h2 : (addV l x).length ≤ l.length + 1 := by unfold addV; split <;> simp
    simp only [varsL, List.foldl_cons, List.length_cons] at h ⊢
    omega
theorem varsL_app (l : List Int) (a b : List Tr) : varsL l (a ++ b) = varsL (varsL l a) b := by simp [varsL]
/-- A list of numbers, at a value. -/
def IsInts (L : List Int) (w : World) (e : Ending) (w' : World) : Prop := ∃ v, e = .returned v ∧ Rd w' 1 v L.length (ints L) ∧ Below w.heap.size w w'
theorem Rd.form {w : World} {size : Nat} {v : Value} {n : Nat} {xs : List Value} (h : Rd w size v n xs) : ∃ A c, v = .slice A n c := by
  rcases h.2 with ⟨h0, A, c, h⟩ | ⟨b, off, cap, h, _⟩
  · exact ⟨A, c, by rw [h, h0]⟩
  · exact ⟨_, cap, h⟩
end Go.Proofs.YtbnpmeaaaecciaaGreat
/- A graph in memory. -/
namespace Go.Proofs.YtbnpmeaaaecciaaGreat
open Go.RowKit Go.Shelf Go.Maps Go.WideShapes
/-- A node as it lies: its kind, its name, its size, its parts' slice. -/
abbrev Nd := Int × Int × Int × Sl
def ndC (x : Nd) : List Value := [.int .i64 x.1, .int .i64 x.2.1, .int .i64 x.2.2.1, slv x.2.2.2]
def toI (P : List Nat) : List Int := P.map fun p : Nat => (p : Int)
theorem toI_len (P : List Nat) : (toI P).length = P.length := by simp [toI]
def nums (P : List Nat) : List Value := ints (toI P)
theorem nums_len (P : List Nat) : (nums P).length = P.length := by simp [nums, ints_len, toI_len]
/-- A node reads so; its parts lie in cells of numbers, from B on. -/
def NdR (B : Nat) (w : World) (x : Nd) (y : Gn) : Prop := x.1 = y.1 ∧ x.2.1 = y.2.1 ∧ x.2.2.1 = (y.2.2.1 : Int) ∧ w.ownsRow B 3 1 (slv x.2.2.2) y.2.2.2.length (nums y.2.2.2)
def NdL (B : Nat) (w : World) : List Nd → List Gn → Prop
  | [], [] => True
  | x :: L, y :: G => NdR B w x y ∧ NdL B w L G
  | _, _ => False
theorem NdL.len {B : Nat} {w : World} {L : List Nd} {G : List Gn} (h : NdL B w L G) : L.length = G.length := by
  induction L generalizing G with
  | nil => cases G with
    | nil => rfl
    | cons => exact h.elim
  | cons x L ih => cases G with
    | nil => exact h.elim
    | cons y G => simp [ih h.2]
theorem NdL.snoc {B : Nat} {w : World} {L : List Nd} {G : List Gn} {x : Nd} {y : Gn} (h : NdL B w L G) (hx : NdR B w x y) : NdL B w (L ++ [x]) (G ++ [y]) := by
  induction L generalizing G with
  | nil => cases G with
    | nil => exact ⟨hx, trivial⟩
    | cons => exact h.elim
  | cons z L ih => cases G with
    | nil => exact h.elim
    | cons y G => exact ⟨h.1, ih h.2⟩
theorem NdL.at {B : Nat} {w : World} {L : List Nd} {G : List Gn} (h : NdL B w L G) (i : Nat) (hi : i < L.length) (hj : i < G.length) : NdR B w L[i] G[i] := by
  induction L generalizing G i with
  | nil => simp at hi
  | cons z L ih => cases G with
    | nil => exact h.elim
    | cons y G =>
      cases i with
      | zero => exact h.1
      | succ i => exact ih h.2 i (by simpa using hi) (by simpa using hj)
/-- What keeps the cells of numbers keeps the parts. -/
theorem NdL.to {B : Nat} {w w' : World} {L : List Nd} {G : List Gn} (h : NdL B w L G) (hk : ∀ (b : Nat) (cs : Array Value), B ≤ b → w.heap[b]? = some (Obj.cells cs 3) → w'.heap[b]? = some (Obj.cells cs 3)) : NdL B w' L G := by
  induction L generalizing G with
  | nil => cases G with
    | nil => trivial
    | cons => exact h.elim
  | cons x L ih => cases G with
    | nil => exact h.elim
    | cons y G =>
      obtain ⟨⟨h1, h2, h3, h4⟩, h5⟩ := h
      refine ⟨⟨h1, h2, h3, h4.1, ?_⟩, ih h5⟩
      rcases h4.2 with h | ⟨g, cap, cur, hv, hb, hg, hr⟩
      · exact .inl h
      · exact .inr ⟨g, cap, cur, hv, hb, hk _ _ hb hg, hr⟩
/-- The graph: its block, its nodes' slice, its map. -/
structure GrM (B : Nat) (w : World) (g : Nat) (v : Value) (mb : Nat) (L : List Nd) (G : List Gn) : Prop where
  cell : w.heap[g]? = some (Obj.cells #[v, .map (some mb)] 96)
  row : w.ownsRow B 113 4 v L.length (L.flatMap ndC)
  nodes : NdL B w L G
  vars : ∃ S, MapF (gvf G) S G.length mb w
  ge : B ≤ g ∧ B ≤ mb
theorem GrM.lt {B : Nat} {w : World} {g : Nat} {v : Value} {mb : Nat} {L : List Nd} {G : List Gn} (h : GrM B w g v mb L G) : g < w.heap.size ∧ mb < w.heap.size :=
  ⟨(Array.getElem?_eq_some_iff.1 h.cell).1, by obtain ⟨_, hm⟩ := h.vars; exact hm.lt⟩
/-- It stands as long as its blocks do. -/
theorem GrM.to {B : Nat} {w w' : World} {g : Nat} {v : Value} {mb : Nat} {L : List Nd} {G : List Gn} (h : GrM B w g v mb L G)
    (hg : w'.heap[g]? = w.heap[g]?) (hm : w'.heap[mb]? = w.heap[mb]?) (hr : ∀ b, v.ownBlock = some b → w'.heap[b]? = w.heap[b]?)
    (hk : ∀ (b : Nat) (cs : Array Value), B ≤ b → w.heap[b]? = some (Obj.cells cs 3) → w'.heap[b]? = some (Obj.cells cs 3)) : GrM B w' g v mb L G := by
  refine ⟨hg.trans h.cell, ⟨h.row.1, ?_⟩, h.nodes.to hk, ?_, h.ge⟩
  · rcases h.row.2 with h2 | ⟨b, cap, cur, hv, hb, hh, hr2⟩
    · exact .inl h2
    · exact .inr ⟨b, cap, cur, hv, hb, (hr b (by rw [hv]; rfl)).trans hh, hr2⟩
  · obtain ⟨S, hv⟩ := h.vars
    exact ⟨S, hv.block hm⟩
theorem GrM.below {B : Nat} {w w' : World} {g : Nat} {v : Value} {mb : Nat} {L : List Nd} {G : List Gn} (h : GrM B w g v mb L G) (hb : Below w.heap.size w w') : GrM B w' g v mb L G :=
  h.to (hb.block _ h.lt.1) (hb.block _ h.lt.2) (fun b e => hb.block _ (h.row.lt b e).2) fun b _ _ hc => (hb.block b (Array.getElem?_eq_some_iff.1 hc).1).trans hc
set_option maxRecDepth 100000 in
set_option maxHeartbeats 1000000 in
/-- graph.New. -/
theorem new_graph (w : World) : Calls Tryz.prog 29 #[] w fun e w' => ∃ g mb, e = .returned (.pointer (some ⟨g, 0, none⟩)) ∧ GrM w.heap.size w' g (.slice none 0 0) mb [] [] ∧ Below w.heap.size w w' := by
  have hmm := @run_makeMap Tryz.prog
  go_enter Tryz.func29, Tryz.ntmps29
  go_wp2_with fail
  refine bodyPost_ret (results_tmp rfl _ _ _) rfl ?_
  have hb1 : Below w.heap.size w (w.alloc (Obj.map #[] 0)) := (Below.refl _ _).alloc (Nat.le_refl _) _
  refine ⟨_, _, rfl, ⟨?_, World.ownsRow_nil _ _ _ _, trivial, ⟨0, ?_⟩, ⟨by omega, Nat.le_refl _⟩⟩, hb1.alloc (by simp) _⟩
  · have := heap_alloc_new (w.alloc (Obj.map #[] 0)) (Obj.cells #[.slice none 0 0, .map (some w.heap.size)] 96)
    rwa [World.size_alloc] at this
  · exact (MapF.made w).kept (World.grownBy_alloc _ _ none) (by simp)
end Go.Proofs.YtbnpmeaaaecciaaGreat
/- slices.Clone at numbers. -/
namespace Go.Proofs.YtbnpmeaaaecciaaGreat
open Go.RowKit Go.Shelf
attribute [local go_sem ↓] builtin_app
set_option maxRecDepth 100000 in
set_option maxHeartbeats 1000000 in
theorem clone_ints (w : World) (v : Value) (L : List Int) (hR : Rd w 1 v L.length (ints L)) (hl : L.length ≤ 10000000) :
    Calls Tryz.prog 76 #[v] w fun e w' => ∃ v', e = .returned v' ∧ w'.ownsRow w.heap.size 3 1 v' L.length (ints L) ∧ Below w.heap.size w w' := by
  obtain ⟨A, c, rfl⟩ := hR.form
  have hnil := fun (w : World) (a : Option Addr) (n c n' c' : Nat) => Lib.run_eql_slice_nil (P := Tryz.prog) w 41 3 a n c n' c' Tryz.underlying41
  cases A with
  | none =>
    have h0 : L.length = 0 := by
      rcases hR.2 with ⟨h, _⟩ | ⟨_, _, _, h, _⟩
      · exact h
      · cases h
    have hL : L = [] := List.eq_nil_of_length_eq_zero h0
    subst hL
    go_enter Tryz.func76, Tryz.ntmps76
    go_wp2_with fail
    exact bodyPost_ret (results_tmp rfl _ _ _) rfl ⟨_, rfl, World.ownsRow_nil _ _ _ _, Below.refl _ _⟩
  | some a =>
    obtain ⟨w1, hw1⟩ : ∃ w1, w.alloc (.cells #[] 3) = w1 := ⟨_, rfl⟩
    have hb1 : Below w.heap.size w w1 := by rw [← hw1]; exact (Below.refl _ _).alloc (Nat.le_refl _) _
    have hs1 : w1.heap.size = w.heap.size + 1 := by rw [← hw1]; simp
    have h1 : w1.heap[w.heap.size]? = some (.cells #[] 3) := by rw [← hw1]; exact heap_alloc_new _ _
    have own0 : w1.ownsRow w.heap.size 3 1 (.slice (some ⟨w.heap.size, 0, none⟩) 0 0) ([] : List Int).length (ints []) := ⟨rfl, .inr ⟨w.heap.size, 0, _, rfl, Nat.le_refl _, h1, Nat.le_refl _, by unfold maxLen; omega, by simp, by simp [ints]⟩⟩
    obtain ⟨v2, w2, run2, own2, b2, _, _, _⟩ := app_int w1 w.heap.size _ [] own0 _ L (hR.below hb1) (by simp; omega) (by omega)
    rw [List.nil_append] at own2
    have H2 := Lib.hid (And.intro own2 (hb1.trans b2))
    clear hR hb1 hs1 h1 own0 own2 b2
    go_enter Tryz.func76, Tryz.ntmps76
    go_wp2_with fail
    exact bodyPost_ret (results_tmp rfl _ _ _) rfl ⟨v2, rfl, H2.out⟩
end Go.Proofs.YtbnpmeaaaecciaaGreat
/- Regions that hold many calls in a row, two and two beside each other: what each pair leaves is walked once. Nothing here speaks of the program. -/
namespace Go.Proofs.YtbnpmeaaaecciaaGreat
open Go.RowKit
variable {P : Program} {ops : Array Oper} {Q : Exit → Act → World → Prop} {md : Region.Mode}

/-- Nothing that stood in W0 has turned. -/
def LS (W0 : World) (w : World) : Prop := Below W0.heap.size W0 w
theorem LS.step {W0 w w' : World} (h : LS W0 w) (hb : Below w.heap.size w w') : LS W0 w' := Below.trans h (hb.mono h.size)
/-- What bears that new blocks are laid. -/
def Bears (V : Value → World → Prop) : Prop := ∀ v w w', V v w → Below w.heap.size w w' → V v w'
theorem bears_eq (u : Value) : Bears (fun v _ => v = u) := fun _ _ _ h _ => h
/-- A call's contract: new blocks alone, and what is known of its value. -/
abbrev Gives (P : Program) (f : FuncId) (args : Array Value) (w : World) (V : Value → World → Prop) : Prop :=
  Calls P f args w fun e w' => ∃ v, e = .returned v ∧ V v w' ∧ Below w.heap.size w w'
theorem gives_of {f : FuncId} {args : Array Value} {w : World} {u : Value} (h : Calls P f args w fun e w' => e = .returned u ∧ Below w.heap.size w w') : Gives P f args w (fun v _ => v = u) := h.mono fun _ _ ⟨h1, h2⟩ => ⟨u, h1, rfl, h2⟩
theorem op_call {W0 : World} {o : Oper} {i : Nat} {f : FuncId} {args : Array Value} {V : Value → World → Prop} {a : Act} {w : World} {K : Act → World → Prop}
    (hi : ops[i]? = some o) (hw : Region.wanted o (yielded ops a.tmps) = true) (he : (execOp a.eval o).run P w = .ok (.enter f args) w) (hS : LS W0 w)
    (hc : Gives P f args w V) (hk : ∀ v w', Below w.heap.size w w' → V v w' → K (a.put o.dst v) w') : wpOp P ops Q i (fun a' w' => LS W0 w' ∧ K a' w') a w := by
  unfold wpOp
  simp only [hi]
  rw [if_pos hw]
  refine .inl ?_
  unfold Oper.wp
  rw [he]
  simp only [Oper.upon]
  refine hc.mono fun e w' ⟨v, hv, hV, hb⟩ => ?_
  subst hv
  exact ⟨hS.step hb, hk v w' hb hV⟩
/-- One call alone may come up. -/
theorem any_one {W0 : World} {i : Nat} {o : Oper} {f : FuncId} {args : Array Value} {V : Value → World → Prop} {fuel : Nat} {listed : Array Bool} {a : Act} {w : World}
    (hi : ops[i]? = some o) (hr : Region.ready md ops listed = [i]) (hw : Region.wanted o (yielded ops a.tmps) = true) (he : (execOp a.eval o).run P w = .ok (.enter f args) w) (hS : LS W0 w)
    (hc : Gives P f args w V) (hk : ∀ v w', Below w.heap.size w w' → LS W0 w' → V v w' → wpAnyH P md ops Q (LS W0) fuel (listed.setIfInBounds i true) (a.put o.dst v) w') : wpAnyH P md ops Q (LS W0) (fuel + 1) listed a w := by
  refine wpAnyH_all hr (by simp) fun j hj => ?_
  obtain rfl : j = i := by simpa using hj
  exact op_call hi hw he hS hc fun v w' hb hV => hk v w' hb (hS.step hb) hV
/-- Two calls may come up, in either order. -/
theorem any_two {W0 : World} {i j : Nat} {oi oj : Oper} {fi fj : FuncId} {ai aj : Array Value} {Vi Vj : Value → World → Prop} {fuel : Nat} {listed : Array Bool} {a : Act} {w : World}
    (hi : ops[i]? = some oi) (hj : ops[j]? = some oj) (hij : i ≠ j) (hr : Region.ready md ops listed = [i, j])
    (hri : Region.ready md ops (listed.setIfInBounds i true) = [j]) (hrj : Region.ready md ops (listed.setIfInBounds j true) = [i])
    (hwi : Region.wanted oi (yielded ops a.tmps) = true) (hwj : Region.wanted oj (yielded ops a.tmps) = true)
    (hwi' : ∀ v, Region.wanted oi (yielded ops (a.put oj.dst v).tmps) = true) (hwj' : ∀ v, Region.wanted oj (yielded ops (a.put oi.dst v).tmps) = true)
    (hei : ∀ w, (execOp a.eval oi).run P w = .ok (.enter fi ai) w) (hej : ∀ w, (execOp a.eval oj).run P w = .ok (.enter fj aj) w)
    (hei' : ∀ v w, (execOp (a.put oj.dst v).eval oi).run P w = .ok (.enter fi ai) w) (hej' : ∀ v w, (execOp (a.put oi.dst v).eval oj).run P w = .ok (.enter fj aj) w)
    (hcomm : ∀ vi vj, (a.put oj.dst vj).put oi.dst vi = (a.put oi.dst vi).put oj.dst vj) (hS : LS W0 w) (bi : Bears Vi) (bj : Bears Vj)
    (hci : ∀ w1, Below w.heap.size w w1 → Gives P fi ai w1 Vi) (hcj : ∀ w1, Below w.heap.size w w1 → Gives P fj aj w1 Vj)
    (hk : ∀ vi vj w', Below w.heap.size w w' → LS W0 w' → Vi vi w' → Vj vj w' → wpAnyH P md ops Q (LS W0) fuel ((listed.setIfInBounds i true).setIfInBounds j true) ((a.put oi.dst vi).put oj.dst vj) w') : wpAnyH P md ops Q (LS W0) (fuel + 2) listed a w := by
  refine wpAnyH_all hr (by simp) fun k hk' => ?_
  rcases (by simpa using hk' : k = i ∨ k = j) with rfl | rfl
  · refine op_call hi hwi (hei w) hS (hci w (Below.refl _ _)) fun vi w1 hb1 hV1 => ?_
    refine wpAnyH_all hri (by simp) fun k hk' => ?_
    obtain rfl : k = j := by simpa using hk'
    refine op_call hj (hwj' vi) (hej' vi w1) (hS.step hb1) (hcj w1 hb1) fun vj w2 hb2 hV2 => ?_
    exact hk vi vj w2 (hb1.trans (hb2.mono hb1.size)) ((hS.step hb1).step hb2) (bi _ _ _ hV1 hb2) hV2
  · refine op_call hj hwj (hej w) hS (hcj w (Below.refl _ _)) fun vj w1 hb1 hV1 => ?_
    refine wpAnyH_all hrj (by simp) fun k hk' => ?_
    obtain rfl : k = i := by simpa using hk'
    refine op_call hi (hwi' vj) (hei' vj w1) (hS.step hb1) (hci w1 hb1) fun vi w2 hb2 hV2 => ?_
    rw [Array.setIfInBounds_comm _ _ hij.symm, hcomm]
    exact hk vi vj w2 (hb1.trans (hb2.mono hb1.size)) ((hS.step hb1).step hb2) hV2 (bj _ _ _ hV1 hb2)
theorem op_val {W0 : World} {o : Oper} {i : Nat} {v : Value} {a : Act} {w w' : World} {K : Act → World → Prop}
    (hi : ops[i]? = some o) (hw : Region.wanted o (yielded ops a.tmps) = true) (he : (execOp a.eval o).run P w = .ok (.value v) w') (hS : LS W0 w) (hb : Below w.heap.size w w')
    (hk : K (a.put o.dst v) w') : wpOp P ops Q i (fun a' w' => LS W0 w' ∧ K a' w') a w := by
  unfold wpOp
  simp only [hi]
  rw [if_pos hw]
  refine .inl ?_
  unfold Oper.wp
  rw [he]
  simp only [Oper.upon]
  exact ⟨hS.step hb, hk⟩
/-- Two may come up: a new block, behind which comes a call that takes it; and a call. -/
theorem any_three {W0 : World} {i j k : Nat} {oi oj ok : Oper} {fj fk : FuncId} {aj : Value → Array Value} {ak : Array Value} {Vi Vj Vk : Value → World → Prop} {fuel : Nat} {listed : Array Bool} {a : Act} {w : World}
    (hi : ops[i]? = some oi) (hj : ops[j]? = some oj) (hok : ops[k]? = some ok) (hik : i ≠ k) (hjk : j ≠ k)
    (r0 : Region.ready md ops listed = [i, k]) (r1 : Region.ready md ops (listed.setIfInBounds i true) = [j, k]) (r2 : Region.ready md ops (listed.setIfInBounds k true) = [i])
    (r3 : Region.ready md ops ((listed.setIfInBounds i true).setIfInBounds j true) = [k]) (r4 : Region.ready md ops ((listed.setIfInBounds i true).setIfInBounds k true) = [j])
    (wi : Region.wanted oi (yielded ops a.tmps) = true) (wk : Region.wanted ok (yielded ops a.tmps) = true)
    (wi' : ∀ v, Region.wanted oi (yielded ops (a.put ok.dst v).tmps) = true) (wj : ∀ v, Region.wanted oj (yielded ops (a.put oi.dst v).tmps) = true) (wk' : ∀ v, Region.wanted ok (yielded ops (a.put oi.dst v).tmps) = true)
    (wk2 : ∀ v v2, Region.wanted ok (yielded ops ((a.put oi.dst v).put oj.dst v2).tmps) = true) (wj2 : ∀ v v2, Region.wanted oj (yielded ops ((a.put oi.dst v).put ok.dst v2).tmps) = true)
    (hei : ∀ w1, Below w.heap.size w w1 → ∃ v w2, (execOp a.eval oi).run P w1 = .ok (.value v) w2 ∧ Vi v w2 ∧ Below w1.heap.size w1 w2) (hei' : ∀ v w, (execOp (a.put ok.dst v).eval oi).run P w = (execOp a.eval oi).run P w)
    (hej : ∀ v w, (execOp (a.put oi.dst v).eval oj).run P w = .ok (.enter fj (aj v)) w) (hej' : ∀ v v2 w, (execOp ((a.put oi.dst v).put ok.dst v2).eval oj).run P w = .ok (.enter fj (aj v)) w)
    (hek : ∀ w, (execOp a.eval ok).run P w = .ok (.enter fk ak) w) (hek1 : ∀ v w, (execOp (a.put oi.dst v).eval ok).run P w = .ok (.enter fk ak) w) (hek2 : ∀ v v2 w, (execOp ((a.put oi.dst v).put oj.dst v2).eval ok).run P w = .ok (.enter fk ak) w)
    (c1 : ∀ vi vk, (a.put ok.dst vk).put oi.dst vi = (a.put oi.dst vi).put ok.dst vk) (c2 : ∀ vi vj vk, ((a.put oi.dst vi).put ok.dst vk).put oj.dst vj = ((a.put oi.dst vi).put oj.dst vj).put ok.dst vk) (hS : LS W0 w)
    (bi : Bears Vi) (bj : Bears Vj) (bk : Bears Vk)
    (hcj : ∀ v w1, Below w.heap.size w w1 → Vi v w1 → Gives P fj (aj v) w1 Vj) (hck : ∀ w1, Below w.heap.size w w1 → Gives P fk ak w1 Vk)
    (hk : ∀ vi vj vk w', Below w.heap.size w w' → LS W0 w' → Vi vi w' → Vj vj w' → Vk vk w' → wpAnyH P md ops Q (LS W0) fuel (((listed.setIfInBounds i true).setIfInBounds j true).setIfInBounds k true) (((a.put oi.dst vi).put oj.dst vj).put ok.dst vk) w') : wpAnyH P md ops Q (LS W0) (fuel + 3) listed a w := by
  refine wpAnyH_all r0 (by simp) fun q hq => ?_
  rcases (by simpa using hq : q = i ∨ q = k) with rfl | rfl
  · obtain ⟨vi, w1, he, hV1, hb1⟩ := hei w (Below.refl _ _)
    refine op_val hi wi he hS hb1 ?_
    refine wpAnyH_all r1 (by simp) fun q hq => ?_
    rcases (by simpa using hq : q = j ∨ q = k) with rfl | rfl
    · refine op_call hj (wj vi) (hej vi w1) (hS.step hb1) (hcj vi w1 hb1 hV1) fun vj w2 hb2 hV2 => ?_
      have hb12 := hb1.trans (hb2.mono hb1.size)
      refine wpAnyH_all r3 (by simp) fun q hq => ?_
      obtain rfl : q = k := by simpa using hq
      refine op_call hok (wk2 vi vj) (hek2 vi vj w2) (hS.step hb12) (hck w2 hb12) fun vk w3 hb3 hV3 => ?_
      exact hk vi vj vk w3 (hb12.trans (hb3.mono hb12.size)) ((hS.step hb12).step hb3) (bi _ _ _ (bi _ _ _ hV1 hb2) hb3) (bj _ _ _ hV2 hb3) hV3
    · refine op_call hok (wk' vi) (hek1 vi w1) (hS.step hb1) (hck w1 hb1) fun vk w2 hb2 hV2 => ?_
      have hb12 := hb1.trans (hb2.mono hb1.size)
      refine wpAnyH_all r4 (by simp) fun q hq => ?_
      obtain rfl : q = j := by simpa using hq
      refine op_call hj (wj2 vi vk) (hej' vi vk w2) (hS.step hb12) (hcj vi w2 hb12 (bi _ _ _ hV1 hb2)) fun vj w3 hb3 hV3 => ?_
      rw [Array.setIfInBounds_comm _ _ hjk.symm, c2]
      exact hk vi vj vk w3 (hb12.trans (hb3.mono hb12.size)) ((hS.step hb12).step hb3) (bi _ _ _ (bi _ _ _ hV1 hb2) hb3) hV3 (bk _ _ _ hV2 hb3)
  · refine op_call hok wk (hek w) hS (hck w (Below.refl _ _)) fun vk w1 hb1 hV1 => ?_
    refine wpAnyH_all r2 (by simp) fun q hq => ?_
    obtain rfl : q = i := by simpa using hq
    obtain ⟨vi, w2, he, hV2, hb2⟩ := hei w1 hb1
    have hb12 := hb1.trans (hb2.mono hb1.size)
    refine op_val hi (wi' vk) ((hei' vk w1).trans he) (hS.step hb1) hb2 ?_
    rw [Array.setIfInBounds_comm _ _ hik.symm, c1]
    refine wpAnyH_all r4 (by simp) fun q hq => ?_
    obtain rfl : q = j := by simpa using hq
    refine op_call hj (wj2 vi vk) (hej' vi vk w2) (hS.step hb12) (hcj vi w2 hb12 hV2) fun vj w3 hb3 hV3 => ?_
    rw [Array.setIfInBounds_comm _ _ hjk.symm, c2]
    exact hk vi vj vk w3 (hb12.trans (hb3.mono hb12.size)) ((hS.step hb12).step hb3) (bi _ _ _ hV2 hb3) hV3 (bk _ _ _ (bk _ _ _ hV1 hb2) hb3)
/-- One operation alone may come up, that is no call: it lays new blocks at most. -/
theorem any_op {W0 : World} {i : Nat} {o : Oper} {v : Value} {fuel : Nat} {listed : Array Bool} {a : Act} {w w' : World}
    (hi : ops[i]? = some o) (hr : Region.ready md ops listed = [i]) (hw : Region.wanted o (yielded ops a.tmps) = true) (he : (execOp a.eval o).run P w = .ok (.value v) w') (hS : LS W0 w)
    (hb : Below w.heap.size w w') (hk : LS W0 w' → wpAnyH P md ops Q (LS W0) fuel (listed.setIfInBounds i true) (a.put o.dst v) w') : wpAnyH P md ops Q (LS W0) (fuel + 1) listed a w := by
  refine wpAnyH_all hr (by simp) fun j hj => ?_
  obtain rfl : j = i := by simpa using hj
  unfold wpOp
  simp only [hi]
  rw [if_pos hw]
  refine .inl ?_
  unfold Oper.wp
  rw [he]
  simp only [Oper.upon]
  exact ⟨hS.step hb, hk (hS.step hb)⟩
/-! The same, the slot that is written told by its number. -/
theorem any_take {S : World → Prop} {i : Nat} {oi : Oper} (d : Option Tmp) (v : Value) {fuel : Nat} {listed : Array Bool} {a : Act} {w : World} (hi : ops[i]? = some oi) (hd : oi.dst = d)
    (hs : Region.noSelect ops = true) (hf : Region.free md ops listed i = true) (hr : (Region.ready md ops listed).contains i = true)
    (hQ : ∀ c a w, Q (.panic c) (a.put d v) w → Q (.panic c) a w) (hy : YieldsIf P ops S oi v a) (hS : S w)
    (h : wpAnyH P md ops Q S fuel (listed.setIfInBounds i true) (a.put d v) w) : wpAnyH P md ops Q S (fuel + 1) listed a w := by
  subst hd; exact wpAnyH_take hi hs hf hr hQ hy hS h
theorem any_one_d {W0 : World} {i : Nat} {o : Oper} (d : Option Tmp) {f : FuncId} {args : Array Value} {V : Value → World → Prop} {fuel : Nat} {listed : Array Bool} {a : Act} {w : World}
    (hi : ops[i]? = some o) (hd : o.dst = d) (hr : Region.ready md ops listed = [i]) (hw : Region.wanted o (yielded ops a.tmps) = true) (he : (execOp a.eval o).run P w = .ok (.enter f args) w) (hS : LS W0 w)
    (hc : Gives P f args w V) (hk : ∀ v w', Below w.heap.size w w' → LS W0 w' → V v w' → wpAnyH P md ops Q (LS W0) fuel (listed.setIfInBounds i true) (a.put d v) w') : wpAnyH P md ops Q (LS W0) (fuel + 1) listed a w := by
  subst hd; exact any_one hi hr hw he hS hc hk
theorem any_op_d {W0 : World} {i : Nat} {o : Oper} (d : Option Tmp) {v : Value} {fuel : Nat} {listed : Array Bool} {a : Act} {w w' : World}
    (hi : ops[i]? = some o) (hd : o.dst = d) (hr : Region.ready md ops listed = [i]) (hw : Region.wanted o (yielded ops a.tmps) = true) (he : (execOp a.eval o).run P w = .ok (.value v) w') (hS : LS W0 w)
    (hb : Below w.heap.size w w') (hk : LS W0 w' → wpAnyH P md ops Q (LS W0) fuel (listed.setIfInBounds i true) (a.put d v) w') : wpAnyH P md ops Q (LS W0) (fuel + 1) listed a w := by
  subst hd; exact any_op hi hr hw he hS hb hk
end Go.Proofs.YtbnpmeaaaecciaaGreat
/- A drawn region by numbers, where S says what stays whatever is stored: one operation that may come up. -/
namespace Go.Proofs.YtbnpmeaaaecciaaGreat
open Go.RowKit
section
variable {P : Program} {ops : Array Oper} {Q : Exit → Act → World → Prop} {md : Region.Mode} {S : World → Prop}
/-- One operation that may come up is carried out: S is shown anew. -/
theorem ops_val {o : Oper} {i : Nat} {d : Option Tmp} {v : Value} {a : Act} {w w' : World} {K : Act → World → Prop}
    (hi : ops[i]? = some o) (hd : o.dst = d) (hw : Region.wanted o (yielded ops a.tmps) = true) (he : (execOp a.eval o).run P w = .ok (.value v) w') (hS : S w')
    (hk : K (a.put d v) w') : wpOp P ops Q i (fun a' w' => S w' ∧ K a' w') a w := by
  subst hd
  unfold wpOp
  simp only [hi]
  rw [if_pos hw]
  refine .inl ?_
  unfold Oper.wp
  rw [he]
  simp only [Oper.upon]
  exact ⟨hS, hk⟩
theorem ops_skip {o : Oper} {i : Nat} {a : Act} {w w' : World} {K : Act → World → Prop}
    (hi : ops[i]? = some o) (hw : Region.wanted o (yielded ops a.tmps) = true) (he : (execOp a.eval o).run P w = .ok .skip w') (hS : S w')
    (hd : o.dst = none) (hk : K a w') : wpOp P ops Q i (fun a' w' => S w' ∧ K a' w') a w := by
  unfold wpOp
  simp only [hi]
  rw [if_pos hw]
  refine .inl ?_
  unfold Oper.wp
  rw [he]
  simp only [Oper.upon]
  rw [hd]
  exact ⟨hS, hk⟩
theorem ops_call {o : Oper} {i : Nat} {d : Option Tmp} {f : FuncId} {args : Array Value} {a : Act} {w : World} {K : Act → World → Prop}
    (hi : ops[i]? = some o) (hd : o.dst = d) (hw : Region.wanted o (yielded ops a.tmps) = true) (he : (execOp a.eval o).run P w = .ok (.enter f args) w)
    (hc : Calls P f args w fun e w' => ∃ v, e = .returned v ∧ S w' ∧ K (a.put d v) w') : wpOp P ops Q i (fun a' w' => S w' ∧ K a' w') a w := by
  subst hd
  unfold wpOp
  simp only [hi]
  rw [if_pos hw]
  refine .inl ?_
  unfold Oper.wp
  rw [he]
  simp only [Oper.upon]
  refine hc.mono fun e w' ⟨v, hv, hS, hk⟩ => ?_
  subst hv
  exact ⟨hS, hk⟩
end
end Go.Proofs.YtbnpmeaaaecciaaGreat
