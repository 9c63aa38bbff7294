/- Texts of one proof, one behind the other. -/
import Derived.Test.YtcaclgaaaanfnaaMgUnifyOrder29
import Derived.Test.YtcaclgaaaanfnaaMgUnifyOrder8
import Derived.Test.YtcaclgaaaanfnaaMgUnifyOrder19
import Derived.Test.YtcaclgaaaanfnaaMgUnifyOrder16
import Derived.Test.YtcaclgaaaanfnaaShKs
/- Equations, one behind the other: what comes of them; two closures beside each other. -/
namespace Go.Proofs.Ytcaclgaaaanfnaa
open Go.RowKit
open Un (Else dg cnt)
set_option maxRecDepth 100000
/-- The nodes and equations with one more. -/
abbrev Sys := List Gn × List (Nat × Nat)
def stp (s : Sys) (x : Eqn) : Sys := (eqG s.1 x.1.1 x.1.2.1 x.1.2.2.2 x.2.1.1 x.2.1.2.1 x.2.1.2.2.2, eqE s.1 s.2 x.1.1 x.1.2.1 x.1.2.2.2 x.2.1.1 x.2.1.2.1 x.2.1.2.2.2)
def cls (l : List Eqn) : Sys := l.foldl stp ([], [])
theorem cls_app (l m : List Eqn) : cls (l ++ m) = m.foldl stp (cls l) := by simp [cls]
theorem cls_step (l : List Eqn) (j : Nat) (hj : j < l.length) : cls (l.take (j + 1)) = stp (cls (l.take j)) l[j] := by
  rw [List.take_add_one, List.getElem?_eq_getElem hj, cls_app]
  rfl
theorem gnode_pre (G : List Gn) (k n : Int) (P : List Nat) : ∃ X, (gnode G k n P).1 = G ++ X ∧ X.length ≤ 1 := by
  unfold gnode
  split
  · exact ⟨[], by simp, by simp⟩
  · exact ⟨_, rfl, by simp⟩
theorem gadd_pre (F : Fo) : ∀ G, ∃ X, (gadd G F).1 = G ++ X ∧ X.length ≤ F.size := by
  induction F with
  | nil => intro G; exact ⟨[], by simp [gadd_nil], by simp⟩
  | cons k n u ps r i1 i2 =>
    intro G
    obtain ⟨X1, h1, l1⟩ := i1 G
    obtain ⟨X2, h2, l2⟩ := gnode_pre (gadd G ps).1 k n (gadd G ps).2
    rw [← gadd1_eq] at h2
    obtain ⟨X3, h3, l3⟩ := i2 (gadd1 G k n ps).1
    refine ⟨X1 ++ (X2 ++ X3), ?_, ?_⟩
    · rw [gadd_cons]
      show (gadd (gadd1 G k n ps).1 r).1 = _
      rw [h3, h2, h1]
      simp only [List.append_assoc]
    · simp only [List.length_append, Fo.size]
      omega
theorem gadd1_pre (G : List Gn) (k n : Int) (ps : Fo) : ∃ X, (gadd1 G k n ps).1 = G ++ X ∧ X.length ≤ 1 + ps.size := by
  obtain ⟨X, h, l⟩ := gadd_pre (.cons k n (none, 0, 0) ps .nil) G
  rw [gadd_cons, gadd_nil] at h
  exact ⟨X, h, by simpa [Fo.size] using l⟩
theorem stp_pre (s : Sys) (x : Eqn) : (∃ X, (stp s x).1 = s.1 ++ X ∧ X.length ≤ sz1 x) ∧ ∃ Y, (stp s x).2 = s.2 ++ Y := by
  obtain ⟨X1, h1, l1⟩ := gadd1_pre s.1 x.1.1 x.1.2.1 x.1.2.2.2
  obtain ⟨X2, h2, l2⟩ := gadd1_pre (gadd1 s.1 x.1.1 x.1.2.1 x.1.2.2.2).1 x.2.1.1 x.2.1.2.1 x.2.1.2.2.2
  refine ⟨⟨X1 ++ X2, ?_, ?_⟩, _, rfl⟩
  · show (gadd1 (gadd1 s.1 x.1.1 x.1.2.1 x.1.2.2.2).1 x.2.1.1 x.2.1.2.1 x.2.1.2.2.2).1 = _
    rw [h2, h1, List.append_assoc]
  · rw [List.length_append]
    unfold sz1
    omega
theorem fold_pre (m : List Eqn) : ∀ s : Sys, (∃ X, (m.foldl stp s).1 = s.1 ++ X ∧ X.length ≤ esz m) ∧ ∃ Y, (m.foldl stp s).2 = s.2 ++ Y := by
  induction m with
  | nil => intro s; exact ⟨⟨[], by simp, by simp [esz]⟩, [], by simp⟩
  | cons x m ih =>
    intro s
    obtain ⟨⟨X1, h1, l1⟩, Y1, g1⟩ := stp_pre s x
    obtain ⟨⟨X2, h2, l2⟩, Y2, g2⟩ := ih (stp s x)
    refine ⟨⟨X1 ++ X2, ?_, ?_⟩, Y1 ++ Y2, ?_⟩
    · rw [List.foldl_cons, h2, h1, List.append_assoc]
    · have e : esz (x :: m) = sz1 x + esz m := by simp [esz]
      rw [List.length_append, e]
      omega
    · rw [List.foldl_cons, g2, g1, List.append_assoc]
theorem cls_len (l : List Eqn) : (cls l).1.length ≤ esz l := by
  obtain ⟨⟨X, h, hl⟩, _⟩ := fold_pre l ([], [])
  show ((l.foldl stp ([], [])).1).length ≤ _
  rw [h]
  simpa using hl
theorem esz_take (l : List Eqn) (j : Nat) : esz (l.take j) ≤ esz l := by
  have h : esz l = esz (l.take j) + esz (l.drop j) := by
    unfold esz
    rw [← List.sum_append, ← List.map_append, List.take_append_drop]
  omega
theorem esz_rights (l : List Eqn) : esz (rights l) ≤ esz l := by
  induction l with
  | nil => simp [rights, esz]
  | cons x l ih =>
    unfold rights at ih ⊢
    have e : esz (x :: l) = sz1 x + esz l := by simp [esz]
    rw [List.filter_cons, e]
    split
    · have e2 : esz (x :: l.filter rtE) = sz1 x + esz (l.filter rtE) := by simp [esz]
      omega
    · omega
theorem Cl.later {s t : Sys} (hX : ∃ X, t.1 = s.1 ++ X) (hY : ∃ Y, t.2 = s.2 ++ Y) {a b : Nat} (h : Cl s.1 s.2 a b) : Cl t.1 t.2 a b := by
  obtain ⟨X, hX⟩ := hX
  obtain ⟨Y, hY⟩ := hY
  refine h.more (fun i p hp => ?_) fun e he => ?_
  · rw [hX]; exact app_get hp
  · rw [hY]; exact List.mem_append_left _ he
theorem Clash.later {s t : Sys} (hX : ∃ X, t.1 = s.1 ++ X) (hY : ∃ Y, t.2 = s.2 ++ Y) (h : Clash s.1 s.2) : Clash t.1 t.2 := by
  obtain ⟨X, hX⟩ := hX
  obtain ⟨Y, hY⟩ := hY
  refine h.more (fun i p hp => ?_) fun e he => ?_
  · rw [hX]; exact app_get hp
  · rw [hY]; exact List.mem_append_left _ he
/-- Each variable has one node; their numbers are such as an int may be. -/
def GN (G : List Gn) : Prop := (names G).Nodup ∧ ∀ n ∈ names G, (Lit.int .i64 n).wf = true
theorem gnode_GN {G : List Gn} {k n : Int} {P : List Nat} (h : GN G) (hn : (Lit.int .i64 n).wf = true) : GN (gnode G k n P).1 := by
  unfold gnode
  split
  · exact h
  · rename_i hg
    unfold GN
    rw [names_snoc]
    by_cases hk : k = 1
    · rw [if_pos hk] at hg
      have : n ∉ names G := fun hm => by
        have := (gvar_names _ n).2 hm
        rw [hg] at this
        cases this
      simp only [hk, if_true]
      refine ⟨List.nodup_append.2 ⟨h.1, by simp, fun a ha b hb e => by simp at hb; subst hb; subst e; exact this ha⟩, fun m hm => ?_⟩
      rcases List.mem_append.1 hm with hm | hm
      · exact h.2 m hm
      · simp only [List.mem_singleton] at hm
        subst hm
        exact hn
    · simp only [hk, if_false, List.append_nil]
      exact h
theorem gadd_GN (F : Fo) : ∀ G, GN G → F.wf → GN (gadd G F).1 := by
  induction F with
  | nil => intro G h _; rw [gadd_nil]; exact h
  | cons k n u ps r i1 i2 =>
    intro G h hw
    rw [gadd_cons]
    refine i2 _ ?_ hw.2.2
    rw [gadd1_eq]
    exact gnode_GN (i1 G h hw.2.1) hw.1
theorem gadd1_GN {G : List Gn} {t : Ty1} (h : GN G) (hw : TyW t) : GN (gadd1 G t.1 t.2.1 t.2.2.2).1 := by
  have := gadd_GN (.cons t.1 t.2.1 (none, 0, 0) t.2.2.2 .nil) G h ⟨hw.1, hw.2, trivial⟩
  rw [gadd_cons, gadd_nil] at this
  exact this
theorem fold_GN (m : List Eqn) : ∀ s : Sys, GN s.1 → EqW m → GN (m.foldl stp s).1 := by
  induction m with
  | nil => intro s h _; exact h
  | cons x m ih =>
    intro s h hw
    refine ih _ ?_ fun y hy => hw y (List.mem_cons_of_mem _ hy)
    have hx := hw x List.mem_cons_self
    exact gadd1_GN (t := x.2.1) (gadd1_GN (t := x.1) h hx.1) hx.2
theorem cls_GN (l : List Eqn) (h : EqW l) : GN (cls l).1 := fold_GN l _ ⟨by simp [names], fun n hn => by simp [names] at hn⟩ h
theorem EqW.rights {l : List Eqn} (h : EqW l) : EqW (rights l) := fun x hx => h x (List.mem_filter.1 hx).1
/-- A closure, clashed or not. -/
def Clo (O : Nat → Prop) (w : World) (cb : Nat) (s : Sys) (b : Nat) : Prop :=
  (∃ st fs m, CsM O w cb s.1 s.2 st fs m ∧ 0 ≤ st ∧ st ≤ b * 100000000 ∧ 0 ≤ fs ∧ fs ≤ b * 100000000) ∨ (Clash s.1 s.2 ∧ O cb ∧ cb < w.heap.size ∧ ∃ st, CxM w cb st)
section
variable {O T : Nat → Prop} {w w' : World} {cb : Nat} {s : Sys} {b : Nat}
theorem Clo.keep (h : Clo O w cb s b) (he : Else T w w') (ht : ∀ k, O k → ¬ T k) : Clo O w' cb s b := by
  rcases h with ⟨st, fs, m, hC, h2⟩ | ⟨hc, hO, hl, st, hx⟩
  · exact .inl ⟨st, fs, m, hC.keep he ht, h2⟩
  · exact .inr ⟨hc, hO, Nat.lt_of_lt_of_le hl he.size, st, (he.block cb hl (ht cb hO)).trans hx⟩
theorem Clo.tight (h : Clo O w cb s b) : ∃ O' : Nat → Prop, (∀ k, O' k → O k ∧ k < w.heap.size) ∧ Clo O' w cb s b := by
  rcases h with ⟨st, fs, m, hC, h2⟩ | ⟨hc, hO, hl, st, hx⟩
  · obtain ⟨O', h1, h3⟩ := hC.tight
    exact ⟨O', h1, .inl ⟨st, fs, m, h3, h2⟩⟩
  · exact ⟨fun k => k = cb, fun k hk => by subst hk; exact ⟨hO, hl⟩, .inr ⟨hc, rfl, hl, st, hx⟩⟩
/-- A right equation comes in. -/
theorem equate_clo (h : Clo O w cb s b) (x : Eqn) (hT : TyLat O w x.1.1 x.1.2.1 x.1.2.2.1 x.1.2.2.2) (hT' : TyLat O w x.2.1.1 x.2.1.2.1 x.2.1.2.2.1 x.2.1.2.2.2) (hs : s.1.length + sz1 x ≤ 8000) (hb : b ≤ 500) :
    Calls Try.prog 15 #[.pointer (some ⟨cb, 0, none⟩), t1V x.1, t1V x.2.1] w fun e w' => (∃ r, e = .returned (.int .i64 r)) ∧ Clo (fun k => O k ∨ w.heap.size ≤ k) w' cb (stp s x) (b + 1) ∧ Else O w w' := by
  rcases h with ⟨st, fs, m, hC, h1, h2, h3, h4⟩ | ⟨hc, hO, hl, st, hx⟩
  · have hm : m ≤ s.1.length := by
      obtain ⟨⟨A, kn, nx, col, ro, _, _, _, _, hm⟩, _⟩ := hC
      rw [← hm]
      exact Un.cnt_le _ _
    refine (equate_ok hC x.1.1 x.1.2.1 x.2.1.1 x.2.1.2.1 x.1.2.2.1 x.2.1.2.2.1 x.1.2.2.2 x.2.1.2.2.2 hT hT' (by unfold sz1 at hs; omega) (by omega) (by omega)).mono ?_
    rintro e w' ⟨hE, st', j, g1, g2, g3⟩
    have hlen := (stp_pre s x).1
    obtain ⟨X, hX, hXl⟩ := hlen
    have hl2 : (stp s x).1.length ≤ 8000 := by rw [hX, List.length_append]; omega
    have hd : dg (stp s x).1.length ≤ 21 := Un.dg_le (by omega)
    have hle : (stp s x).1.length - s.1.length ≤ 8000 := by omega
    rcases g3 with ⟨rfl, hc, hx, hj⟩ | ⟨rfl, hc, fs', m', hC', f1, f2, hj⟩
    · have hl' : cb < w'.heap.size := (Array.getElem?_eq_some_iff.1 hx).1
      exact ⟨⟨_, rfl⟩, .inr ⟨hc, .inl hC.own, hl', st', hx⟩, hE⟩
    · have hjj : j ≤ 150000 := by
        have e : (stp s x).1.length = (eqG s.1 x.1.1 x.1.2.1 x.1.2.2.2 x.2.1.1 x.2.1.2.1 x.2.1.2.2.2).length := rfl
        omega
      have hbn := bnd hd hjj
      refine ⟨⟨_, rfl⟩, .inl ⟨st', fs', m', hC', by omega, ?_, by omega, ?_⟩, hE⟩
      · have e : dg (stp s x).1.length = dg (eqG s.1 x.1.1 x.1.2.1 x.1.2.2.2 x.2.1.1 x.2.1.2.1 x.2.1.2.2.2).length := rfl
        rw [← e] at g2
        push_cast
        omega
      · have e : dg (stp s x).1.length = dg (eqG s.1 x.1.1 x.1.2.1 x.1.2.2.2 x.2.1.1 x.2.1.2.1 x.2.1.2.2.2).length := rfl
        rw [← e] at f2
        push_cast
        omega
  · refine (equate_cx hx x.1.1 x.1.2.1 x.2.1.1 x.2.1.2.1 x.1.2.2.1 x.2.1.2.2.1).mono ?_
    rintro e w' ⟨rfl, hB⟩
    obtain ⟨⟨X, hX, _⟩, Y, hY⟩ := stp_pre s x
    exact ⟨⟨_, rfl⟩, .inr ⟨hc.later ⟨X, hX⟩ ⟨Y, hY⟩, .inl hO, Nat.lt_of_lt_of_le hl hB.size, st, (hB.block cb hl).trans hx⟩, Else.of_below hB⟩
end
/-- Two closures, beside each other, above block B. -/
def Two (B : Nat) (w : World) (c d : Nat) (s t : Sys) (b : Nat) : Prop :=
  ∃ Oc Od, Clo Oc w c s b ∧ Clo Od w d t b ∧ (∀ k, Oc k → B ≤ k ∧ k < w.heap.size) ∧ (∀ k, Od k → B ≤ k ∧ k < w.heap.size) ∧ ∀ k, Oc k → ¬ Od k
section
variable {w w' : World} {B b c d : Nat} {s t : Sys}
theorem Two.flip (h : Two B w c d s t b) : Two B w d c t s b := by
  obtain ⟨Oc, Od, h1, h2, h3, h4, h5⟩ := h
  exact ⟨Od, Oc, h2, h1, h4, h3, fun k a b => h5 k b a⟩
theorem Clo.more {O : Nat → Prop} {b' : Nat} (h : Clo O w c s b) (hb : b ≤ b') : Clo O w c s b' := by
  rcases h with ⟨st, fs, m, hC, h1, h2, h3, h4⟩ | h
  · exact .inl ⟨st, fs, m, hC, h1, by omega, h3, by omega⟩
  · exact .inr h
theorem Two.below (h : Two B w c d s t b) (hb : Below w.heap.size w w') : Two B w' c d s t b := by
  obtain ⟨Oc, Od, h1, h2, h3, h4, h5⟩ := h
  have hs := hb.size
  exact ⟨Oc, Od, h1.keep (T := fun _ => False) (Else.of_below hb) fun _ _ e => e, h2.keep (T := fun _ => False) (Else.of_below hb) fun _ _ e => e, fun k hk => by have := h3 k hk; omega, fun k hk => by have := h4 k hk; omega, h5⟩
/-- The first one turns. -/
theorem Two.turn {Oc Od O' : Nat → Prop} {b' : Nat} {s' : Sys} (h2 : Clo Od w d t b) (h3 : ∀ k, Oc k → B ≤ k ∧ k < w.heap.size) (h4 : ∀ k, Od k → B ≤ k ∧ k < w.heap.size) (h5 : ∀ k, Oc k → ¬ Od k) (hB : B ≤ w.heap.size) (hE : Else Oc w w') (hc : Clo O' w' c s' b') (hO : ∀ k, O' k → Oc k ∨ w.heap.size ≤ k) (hb : b ≤ b') : Two B w' c d s' t b' ∧ Below B w w' := by
  obtain ⟨O2, g1, g2⟩ := hc.tight
  refine ⟨⟨O2, Od, g2, (h2.keep hE fun k hk hc => h5 k hc hk).more hb, fun k hk => ?_, fun k hk => by have := h4 k hk; have := hE.size; omega, fun k hk hd => ?_⟩, hE.below (fun k hk => (h3 k hk).1) hB⟩
  · obtain ⟨a1, a2⟩ := g1 k hk
    rcases hO k a1 with a3 | a3
    · exact ⟨(h3 k a3).1, a2⟩
    · exact ⟨by omega, a2⟩
  · obtain ⟨a1, a2⟩ := g1 k hk
    rcases hO k a1 with a3 | a3
    · exact h5 k a3 hd
    · have := (h4 k hd).2
      omega
theorem rt1_right {t : Ty1} (h : rt1 t = true) (hu : t.2.2.1.2.1 = t.2.2.2.len) : allAlone (Fo.cons t.1 t.2.1 t.2.2.1 t.2.2.2 .nil).pre = true := by
  unfold rt1 at h
  rw [Bool.and_eq_true] at h
  unfold allAlone at h ⊢
  simp only [Fo.pre, List.append_nil, List.all_cons, Bool.and_eq_true]
  exact ⟨by rw [hu]; exact h.1, h.2⟩
theorem two_left (h : Two B w c d s t b) (hB : B ≤ w.heap.size) (x : Eqn) (hx : EqT B w x) (hw : TyW x.1 ∧ TyW x.2.1) (hr : rtE x = true) (hs : s.1.length + sz1 x ≤ 8000) (hb : b ≤ 500) :
    Calls Try.prog 15 #[.pointer (some ⟨c, 0, none⟩), t1V x.1, t1V x.2.1] w fun e w' => (∃ r, e = .returned (.int .i64 r)) ∧ Two B w' c d (stp s x) t (b + 1) ∧ Below B w w' := by
  obtain ⟨Oc, Od, h1, h2, h3, h4, h5⟩ := h
  have hr' : rt1 x.1 = true ∧ rt1 x.2.1 = true := by unfold rtE at hr; rwa [Bool.and_eq_true] at hr
  have ht1 : TyLat Oc w x.1.1 x.1.2.1 x.1.2.2.1 x.1.2.2.2 := TyLat.low hx.1 (fun k hk => (h3 k hk).1) hB ⟨hw.1.1, hw.1.2, trivial⟩ (rt1_right hr'.1 (TyV.len hx.1))
  have ht2 : TyLat Oc w x.2.1.1 x.2.1.2.1 x.2.1.2.2.1 x.2.1.2.2.2 := TyLat.low hx.2 (fun k hk => (h3 k hk).1) hB ⟨hw.2.1, hw.2.2, trivial⟩ (rt1_right hr'.2 (TyV.len hx.2))
  refine (equate_clo h1 x ht1 ht2 hs hb).mono ?_
  rintro e w' ⟨hr, hC, hE⟩
  exact ⟨hr, Two.turn h2 h3 h4 h5 hB hE hC (fun _ hk => hk) (by omega)⟩
theorem two_right (h : Two B w c d s t b) (hB : B ≤ w.heap.size) (x : Eqn) (hx : EqT B w x) (hw : TyW x.1 ∧ TyW x.2.1) (hr : rtE x = true) (hs : t.1.length + sz1 x ≤ 8000) (hb : b ≤ 500) :
    Calls Try.prog 15 #[.pointer (some ⟨d, 0, none⟩), t1V x.1, t1V x.2.1] w fun e w' => (∃ r, e = .returned (.int .i64 r)) ∧ Two B w' c d s (stp t x) (b + 1) ∧ Below B w w' :=
  (two_left h.flip hB x hx hw hr hs hb).mono fun _ _ ⟨h1, h2, h3⟩ => ⟨h1, h2.flip, h3⟩
end
end Go.Proofs.Ytcaclgaaaanfnaa
/- graph's Vars: the map's keys, sorted. -/
namespace Go.Proofs.Ytcaclgaaaanfnaa
open Go.RowKit Go.Maps Go.Sort Go.Shelf
set_option maxRecDepth 100000
/-- slices.Sort's two contracts at this program. -/
theorem sortsV (m : Nat) : AnyZI.SortsIn Try.prog Try.sortedV_ren Fence.wide m :=
  ⟨fun blk off cap ss W hH hblk hsz => callsIn_wide.2 (AnyM.slices_Sort_int Try.sortV blk off cap ss W hH hblk hsz),
   fun p cap W => callsIn_wide.2 (AnyM.slices_Sort_int_none Try.sortV p cap W)⟩
/-- A map's keys are the variables. -/
theorem keys_names {G : List Gn} {b : Nat} {W : World} {k : Nat} {D : DataW Value} (hown : W.ownsMap Try.prog 3 heldE b k D) (hnd : (names G).Nodup) (hwf : ∀ n ∈ names G, (Lit.int .i64 n).wf = true)
    (hh : ∀ n : Int, (Lit.int .i64 n).wf = true → has D (.int .i64 n) = (gvf G n).isSome) : (names G).Perm (intKeys D) := by
  obtain ⟨es, hD, hpw, -⟩ := hown.entries lawI
  obtain ⟨es', hD', hko⟩ := hown.keysOf
  obtain rfl : es = es' := by rw [hD] at hD'; simpa using hD'
  subst hD
  have hw := intKeys_wf hown Try.underlying3
  refine perm_intKeys hpw (fun p hp => by obtain ⟨v, hv⟩ := hko p hp; obtain ⟨x, _, hx, _⟩ := Maps.keyOf_i64 Try.underlying3 hv; exact ⟨x, hx⟩) hnd (fun x => ?_)
  rw [← gvar_names]
  have e2 : (gvf G x).isSome = (gvar G x).isSome := by unfold gvf; cases gvar G x <;> rfl
  constructor
  · intro h
    rw [hh x (hwf x ((gvar_names G x).1 h)), e2]
    exact h
  · intro h
    have hx : x ∈ intKeys (.map es) := by
      rw [has_eq, List.any_eq_true] at h
      obtain ⟨p, hp, hs⟩ := h
      obtain ⟨v, hv⟩ := hko p hp
      obtain ⟨a, _, ha, _⟩ := Maps.keyOf_i64 Try.underlying3 hv
      rw [ha] at hs
      exact List.mem_map.2 ⟨p, hp, by rw [ha]; simpa [Lit.sameKey, Go.intOf] using hs⟩
    rw [hh x (hw x hx), e2] at h
    exact h
set_option maxHeartbeats 4000000 in
theorem vars_graph (w : World) (B g mb : Nat) (v : Value) (L : List Nd) (G : List Gn) (hG : GrM B w g v mb L G) (hl : G.length ≤ 1000000) (hnd : (names G).Nodup) (hwf : ∀ n ∈ names G, (Lit.int .i64 n).wf = true) :
    Calls Try.prog 63 #[.pointer (some ⟨g, 0, none⟩)] w fun e w' => ∃ v', e = .returned v' ∧ w'.ownsRow w.heap.size 3 1 v' (vsort G).length (ints (vsort G)) ∧ Below w.heap.size w w' := by
  obtain ⟨S, kk, D0, hown, hkk, hT, hS, hh⟩ := hG.vars
  have hperm := keys_names hown hnd hwf (fun n hn => (hh n hn).1)
  have hsz : Maps.size D0 ≤ 1000000 := by
    obtain ⟨es, hD, -⟩ := hown.keysOf
    subst hD
    have h1 := hperm.length_eq
    have h2 : (names G).length ≤ G.length := List.length_filterMap_le _ _
    simp only [intKeys, List.length_map] at h1
    simp only [Maps.size]
    omega
  refine (callsIn_wide (n := 6)).1 ?_
  have hbl := hown.lt
  have hseq : SeqGives Fence.wide 2 Try.prog 108 #[.pointer (some ⟨w.heap.size, 0, none⟩)] encZ (fun ss => ss.Perm (intKeys D0)) (Maps.size D0) (w.alloc (.cells #[.map (some mb)] 84)) :=
    AnyZI.keys_gives (ρ := Try.keysV_ren) { Try.keysV with } Fence.wide _ trivial rfl (by omega) w.heap.size mb kk D0 _ (by simp) (by simp) (by
      obtain ⟨es, clock, hb, Ft, hs, hD⟩ := hown
      exact ⟨es, clock, (Below.heap_alloc _ _ mb hbl).trans hb, Ft, hs, hD⟩)
  have cK : ∀ m W, CallsIn Fence.wide 5 Try.prog 90 #[.map m] W fun e w' => e = .returned (.func (.func 108) #[] #[.pointer (some ⟨W.heap.size, 0, none⟩)]) ∧ w' = W.alloc (.cells #[.map m] 84) := fun m W => AnyZI.keys_in Try.keysV Fence.wide 5 trivial rfl m W
  have cS := AnyZI.sorted_in Try.sortedV Fence.wide 5 trivial trivial trivial trivial rfl (by omega) (sortsV _) (enters_of Try.func64 (by kernel_rfl) rfl) 108 #[.pointer (some ⟨w.heap.size, 0, none⟩)] trivial (enters_of Try.func108 (by kernel_rfl) rfl) _ _ (by unfold maxLen; omega) (by omega) _ hseq
  change CallsIn _ _ Try.prog 89 _ _ _ at cS
  have hfK : Fence.wide.fn 90 := trivial
  have hfS : Fence.wide.fn 89 := trivial
  have g1 : w.cell? ⟨g, 1, none⟩ = some (.map (some mb)) := cell_of_row w _ 1 _ _ (0, 0) hG.cell
  have HP := Lib.hid hperm
  clear hG hown hT hh hperm hseq
  refine callsIn_of_wp Try.func63 rfl trivial ?_ rfl
  simp only [Try.ntmps63, List.size_toArray, List.length_cons, List.length_nil, Nat.reduceAdd, Nat.reduceSub, Array.replicate_succ, Array.replicate_zero, List.push_toArray, List.append_toArray, List.nil_append, List.cons_append]
  gi_wp2_with (first
    | (gi_at_call 90; refine (cK _ _).mono ?_; rintro e w' ⟨rfl, rfl⟩)
    | (gi_at_call 89; refine cS.mono ?_; rintro e w' ⟨v, ss, rfl, hS, hrow, hnil, hb⟩))
  go_ret
  refine ⟨v, rfl, ?_, ((Below.refl _ w).alloc (Nat.le_refl _) _).trans (hb.mono (by simp))⟩
  have h1 := ownsRow_base_a hrow (show w.heap.size ≤ _ by simp)
  have h2 := vsort_eq G ss (hS.trans HP.out.symm)
  have h3 : ss.length = (vsort G).length := by rw [← h2]; exact (List.mergeSort_perm _ _).length_eq.symm
  rw [h2, h3] at h1
  exact h1
end Go.Proofs.Ytcaclgaaaanfnaa
/- unify: a closure's variables; questions of a closure that doesn't clash. -/
namespace Go.Proofs.Ytcaclgaaaanfnaa
open Go.RowKit
open Un (Else dg cnt own_else)
set_option maxRecDepth 100000
section
variable {O T : Nat → Prop} {w w' : World} {cb m : Nat} {G : List Gn} {E : List (Nat × Nat)} {st fs f : Int} {s : Sys} {b : Nat}
theorem vars_cs (h : CsM O w cb G E st fs m) (hl : G.length ≤ 1000000) (hg : GN G) :
    Calls Try.prog 31 #[.pointer (some ⟨cb, 0, none⟩)] w fun e w' => ∃ v', e = .returned v' ∧ w'.ownsRow w.heap.size 3 1 v' (vsort G).length (ints (vsort G)) ∧ Below w.heap.size w w' := by
  obtain ⟨⟨A, kn, nx, col, ro, hC, _⟩, _⟩ := h
  obtain ⟨hl0, _, _, _, c2, _, _⟩ := hC.cells
  have HV := Lib.hid (vars_graph w 0 A.g A.mb A.V A.L G hC.gr hl hg.1 hg.2)
  clear hC
  go_enter Try.func31, Try.ntmps31
  go_wp2_with fail
  refine HV.out.mono ?_
  rintro e w2 ⟨v', rfl, hr, hb⟩
  obtain ⟨Av, cv, rfl, _, _⟩ := Un.own_form hr
  have HR := Lib.hid (And.intro hr hb)
  clear hr hb HV
  go_wp2_with fail
  exact bodyPost_ret (results_tmp rfl _ _ _) rfl ⟨.slice Av (vsort G).length cv, rfl, HR.out.1, HR.out.2⟩
/-- A closure that doesn't clash; its forest's steps are bounded. -/
def CQ (O : Nat → Prop) (w : World) (cb : Nat) (s : Sys) (f : Int) : Prop := ∃ st fs m, CsM O w cb s.1 s.2 st fs m ∧ 0 ≤ fs ∧ fs ≤ f
theorem Clo.cq (h : Clo O w cb s b) (hn : ¬ Clash s.1 s.2) : CQ O w cb s (b * 100000000) := by
  rcases h with ⟨st, fs, m, hC, _, _, h3, h4⟩ | ⟨hc, _⟩
  · exact ⟨st, fs, m, hC, h3, h4⟩
  · exact absurd hc hn
theorem CQ.keep (h : CQ O w cb s f) (he : Else T w w') (ht : ∀ k, O k → ¬ T k) : CQ O w' cb s f := by
  obtain ⟨st, fs, m, hC, h2⟩ := h
  exact ⟨st, fs, m, hC.keep he ht, h2⟩
theorem CQ.more {f' : Int} (h : CQ O w cb s f) (hf : f ≤ f') : CQ O w cb s f' := by
  obtain ⟨st, fs, m, hC, h2, h3⟩ := h
  exact ⟨st, fs, m, hC, h2, by omega⟩
theorem CQ.below (h : CQ O w cb s f) (hb : Below w.heap.size w w') : CQ O w' cb s f := h.keep (T := fun _ => False) (Else.of_below hb) fun _ _ e => e
theorem same_cq (h : CQ O w cb s f) (hf : f ≤ 1000000000000) (hG : s.1.length ≤ 500000) (x y : Int) (hx : (Lit.int .i64 x).wf = true) (hy : (Lit.int .i64 y).wf = true) :
    Calls Try.prog 25 #[.pointer (some ⟨cb, 0, none⟩), .int .i64 x, .int .i64 y] w fun e w' => ∃ t : Bool, e = .returned (.bool t) ∧ (t = true ↔ SameIs s.1 s.2 x y) ∧ CQ O w' cb s (f + 42) ∧ Else O w w' := by
  obtain ⟨st, fs, m, hC, h2, h3⟩ := h
  refine (same_cs hC (by omega) hG x y hx hy).mono ?_
  rintro e w' ⟨t, k, rfl, ht, hk, hC', hE⟩
  have hd : dg s.1.length ≤ 21 := Un.dg_le (by omega)
  exact ⟨t, rfl, ht, ⟨st, _, m, hC', by omega, by omega⟩, hE⟩
theorem kind_cq (h : CQ O w cb s f) (hf : f ≤ 1000000000000) (hG : s.1.length ≤ 500000) (x : Int) (hx : (Lit.int .i64 x).wf = true) :
    Calls Try.prog 32 #[.pointer (some ⟨cb, 0, none⟩), .int .i64 x] w fun e w' => ∃ r : Int, e = .returned (.int .i64 r) ∧ KindIs s.1 s.2 x r ∧ CQ O w' cb s (f + 42) ∧ Else O w w' := by
  obtain ⟨st, fs, m, hC, h2, h3⟩ := h
  refine (kind_cs hC (by omega) x hx).mono ?_
  rintro e w' ⟨r, k, rfl, hr, hk, hC', hE⟩
  have hd : dg s.1.length ≤ 21 := Un.dg_le (by omega)
  exact ⟨r, rfl, hr, ⟨st, _, m, hC', by omega, by omega⟩, hE⟩
theorem err_clo (h : Clo O w cb s b) : Calls Try.prog 29 #[.pointer (some ⟨cb, 0, none⟩)] w fun e w' => (∃ r : Int, e = .returned (.int .i64 r) ∧ ((r = 7 ∧ Clash s.1 s.2) ∨ (r = 0 ∧ ¬ Clash s.1 s.2))) ∧ w' = w := by
  rcases h with ⟨st, fs, m, hC, _⟩ | ⟨hc, _, _, st, hx⟩
  · exact (err_cs hC).mono fun e w' ⟨h1, h2⟩ => ⟨⟨0, h1, .inr ⟨rfl, hC.noClash⟩⟩, h2⟩
  · exact (err_cx hx).mono fun e w' ⟨h1, h2⟩ => ⟨⟨7, h1, .inl ⟨rfl, hc⟩⟩, h2⟩
end
/-- A variable's node stays the first one. -/
theorem gvar_later {G X : List Gn} {v : Int} {i : Nat} (h : gvar G v = some i) : gvar (G ++ X) v = some i := by
  induction G generalizing i with
  | nil => cases h
  | cons x G ih =>
    simp only [gvar, List.cons_append] at h ⊢
    split at h
    · rename_i hx
      rw [if_pos hx]
      exact h
    · rename_i hx
      obtain ⟨j, hj, rfl⟩ := Option.map_eq_some_iff.1 h
      rw [if_neg hx, ih hj]
      rfl
theorem SameIs.later {s t : Sys} (hX : ∃ X, t.1 = s.1 ++ X) (hY : ∃ Y, t.2 = s.2 ++ Y) {a b : Int} (h : SameIs s.1 s.2 a b) : SameIs t.1 t.2 a b := by
  obtain ⟨i, j, h1, h2, h3⟩ := h
  obtain ⟨X, hX'⟩ := hX
  refine ⟨i, j, ?_, ?_, h3.later ⟨X, hX'⟩ hY⟩
  · rw [hX']; exact gvar_later h1
  · rw [hX']; exact gvar_later h2
/-- A kind that is known stays. -/
theorem KindIs.later {s t : Sys} (hX : ∃ X, t.1 = s.1 ++ X) (hY : ∃ Y, t.2 = s.2 ++ Y) (hn : ¬ Clash t.1 t.2) {v r r' : Int} (h : KindIs s.1 s.2 v r) (h' : KindIs t.1 t.2 v r') (h0 : r ≠ 0) : r' = r := by
  unfold KindIs at h h'
  cases hg : gvar s.1 v with
  | none => rw [hg] at h; exact absurd h h0
  | some i =>
    rw [hg] at h
    obtain ⟨X, hX'⟩ := hX
    have hg' : gvar t.1 v = some i := by rw [hX']; exact gvar_later hg
    rw [hg'] at h'
    rcases h with ⟨y, q, h1, h2, h3, rfl⟩ | ⟨h, _⟩
    · have h1' := Cl.later ⟨X, hX'⟩ hY h1
      have h2' : t.1[y]? = some q := by rw [hX']; exact app_get h2
      rcases h' with ⟨z, p, g1, g2, g3, rfl⟩ | ⟨_, g⟩
      · apply Decidable.byContradiction
        intro hne
        exact hn ⟨z, y, p, q, g1.symm.trans h1', g2, h2', g3, h3, fun e => hne e.1⟩
      · exact absurd (g y q h1' h2') h3
    · exact absurd h h0
end Go.Proofs.Ytcaclgaaaanfnaa
