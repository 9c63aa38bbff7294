/- Texts of one proof, one behind the other. -/
import Derived.Test.YtbnpmeaaaecciaaMgUnifyParts24
import Derived.Test.YtbnpmeaaaecciaaMgUnifyParts20
import Derived.Test.YtbnpmeaaaecciaaMgUnifyParts23
import Derived.Test.YtbnpmeaaaecciaaMgUnifyParts17
import Derived.Test.YtbnpmeaaaecciaaMgUnifyParts19
import Derived.BigQuiet
/- Equations, one behind the other: what comes of them; two closures beside each other. -/
namespace Go.Proofs.Ytbnpmeaaaecciaa
open Go.RowKit
open Un (Else dg cnt)
set_option maxRecDepth 100000
/-- The nodes and equations with one more. -/
abbrev Sys := List Gn × List (Nat × Nat)
def stp (s : Sys) (x : Eqn) : Sys := (eqG s.1 x.1.1 x.1.2.1 x.1.2.2.2 x.2.1.1 x.2.1.2.1 x.2.1.2.2.2, eqE s.1 s.2 x.1.1 x.1.2.1 x.1.2.2.2 x.2.1.1 x.2.1.2.1 x.2.1.2.2.2)
def cls (l : List Eqn) : Sys := l.foldl stp ([], [])
theorem cls_app (l m : List Eqn) : cls (l ++ m) = m.foldl stp (cls l) := by simp [cls]
theorem cls_step (l : List Eqn) (j : Nat) (hj : j < l.length) : cls (l.take (j + 1)) = stp (cls (l.take j)) l[j] := by
  rw [List.take_add_one, List.getElem?_eq_getElem hj, cls_app]
  rfl
theorem gnode_pre (G : List Gn) (k n : Int) (P : List Nat) : ∃ X, (gnode G k n P).1 = G ++ X ∧ X.length ≤ 1 := by
  unfold gnode
  split
  · exact ⟨[], by simp, by simp⟩
  · exact ⟨_, rfl, by simp⟩
theorem gadd_pre (F : Fo) : ∀ G, ∃ X, (gadd G F).1 = G ++ X ∧ X.length ≤ F.size := by
  induction F with
  | nil => intro G; exact ⟨[], by simp [gadd_nil], by simp⟩
  | cons k n u ps r i1 i2 =>
    intro G
    obtain ⟨X1, h1, l1⟩ := i1 G
    obtain ⟨X2, h2, l2⟩ := gnode_pre (gadd G ps).1 k n (gadd G ps).2
    rw [← gadd1_eq] at h2
    obtain ⟨X3, h3, l3⟩ := i2 (gadd1 G k n ps).1
    refine ⟨X1 ++ (X2 ++ X3), ?_, ?_⟩
    · rw [gadd_cons]
      show (gadd (gadd1 G k n ps).1 r).1 = _
      rw [h3, h2, h1]
      simp only [List.append_assoc]
    · simp only [List.length_append, Fo.size]
      omega
theorem gadd1_pre (G : List Gn) (k n : Int) (ps : Fo) : ∃ X, (gadd1 G k n ps).1 = G ++ X ∧ X.length ≤ 1 + ps.size := by
  obtain ⟨X, h, l⟩ := gadd_pre (.cons k n (none, 0, 0) ps .nil) G
  rw [gadd_cons, gadd_nil] at h
  exact ⟨X, h, by simpa [Fo.size] using l⟩
theorem stp_pre (s : Sys) (x : Eqn) : (∃ X, (stp s x).1 = s.1 ++ X ∧ X.length ≤ sz1 x) ∧ ∃ Y, (stp s x).2 = s.2 ++ Y := by
  obtain ⟨X1, h1, l1⟩ := gadd1_pre s.1 x.1.1 x.1.2.1 x.1.2.2.2
  obtain ⟨X2, h2, l2⟩ := gadd1_pre (gadd1 s.1 x.1.1 x.1.2.1 x.1.2.2.2).1 x.2.1.1 x.2.1.2.1 x.2.1.2.2.2
  refine ⟨⟨X1 ++ X2, ?_, ?_⟩, _, rfl⟩
  · show (gadd1 (gadd1 s.1 x.1.1 x.1.2.1 x.1.2.2.2).1 x.2.1.1 x.2.1.2.1 x.2.1.2.2.2).1 = _
    rw [h2, h1, List.append_assoc]
  · rw [List.length_append]
    unfold sz1
    omega
theorem fold_pre (m : List Eqn) : ∀ s : Sys, (∃ X, (m.foldl stp s).1 = s.1 ++ X ∧ X.length ≤ esz m) ∧ ∃ Y, (m.foldl stp s).2 = s.2 ++ Y := by
  induction m with
  | nil => intro s; exact ⟨⟨[], by simp, by simp [esz]⟩, [], by simp⟩
  | cons x m ih =>
    intro s
    obtain ⟨⟨X1, h1, l1⟩, Y1, g1⟩ := stp_pre s x
    obtain ⟨⟨X2, h2, l2⟩, Y2, g2⟩ := ih (stp s x)
    refine ⟨⟨X1 ++ X2, ?_, ?_⟩, Y1 ++ Y2, ?_⟩
    · rw [List.foldl_cons, h2, h1, List.append_assoc]
    · have e : esz (x :: m) = sz1 x + esz m := by simp [esz]
      rw [List.length_append, e]
      omega
    · rw [List.foldl_cons, g2, g1, List.append_assoc]
theorem cls_len (l : List Eqn) : (cls l).1.length ≤ esz l := by
  obtain ⟨⟨X, h, hl⟩, _⟩ := fold_pre l ([], [])
  show ((l.foldl stp ([], [])).1).length ≤ _
  rw [h]
  simpa using hl
theorem esz_take (l : List Eqn) (j : Nat) : esz (l.take j) ≤ esz l := by
  have h : esz l = esz (l.take j) + esz (l.drop j) := by
    unfold esz
    rw [← List.sum_append, ← List.map_append, List.take_append_drop]
  omega
theorem esz_rights (l : List Eqn) : esz (rights l) ≤ esz l := by
  induction l with
  | nil => simp [rights, esz]
  | cons x l ih =>
    unfold rights at ih ⊢
    have e : esz (x :: l) = sz1 x + esz l := by simp [esz]
    rw [List.filter_cons, e]
    split
    · have e2 : esz (x :: l.filter rtE) = sz1 x + esz (l.filter rtE) := by simp [esz]
      omega
    · omega
theorem Cl.later {s t : Sys} (hX : ∃ X, t.1 = s.1 ++ X) (hY : ∃ Y, t.2 = s.2 ++ Y) {a b : Nat} (h : Cl s.1 s.2 a b) : Cl t.1 t.2 a b := by
  obtain ⟨X, hX⟩ := hX
  obtain ⟨Y, hY⟩ := hY
  refine h.more (fun i p hp => ?_) fun e he => ?_
  · rw [hX]; exact app_get hp
  · rw [hY]; exact List.mem_append_left _ he
theorem Clash.later {s t : Sys} (hX : ∃ X, t.1 = s.1 ++ X) (hY : ∃ Y, t.2 = s.2 ++ Y) (h : Clash s.1 s.2) : Clash t.1 t.2 := by
  obtain ⟨X, hX⟩ := hX
  obtain ⟨Y, hY⟩ := hY
  refine h.more (fun i p hp => ?_) fun e he => ?_
  · rw [hX]; exact app_get hp
  · rw [hY]; exact List.mem_append_left _ he
/-- Each variable has one node; their numbers are such as an int may be. -/
def GN (G : List Gn) : Prop := (names G).Nodup ∧ ∀ n ∈ names G, (Lit.int .i64 n).wf = true
theorem gnode_GN {G : List Gn} {k n : Int} {P : List Nat} (h : GN G) (hn : (Lit.int .i64 n).wf = true) : GN (gnode G k n P).1 := by
  unfold gnode
  split
  · exact h
  · rename_i hg
    unfold GN
    rw [names_snoc]
    by_cases hk : k = 1
    · rw [if_pos hk] at hg
      have : n ∉ names G := fun hm => by
        have := (gvar_names _ n).2 hm
        rw [hg] at this
        cases this
      simp only [hk, if_true]
      refine ⟨List.nodup_append.2 ⟨h.1, by simp, fun a ha b hb e => by simp at hb; subst hb; subst e; exact this ha⟩, fun m hm => ?_⟩
      rcases List.mem_append.1 hm with hm | hm
      · exact h.2 m hm
      · simp only [List.mem_singleton] at hm
        subst hm
        exact hn
    · simp only [hk, if_false, List.append_nil]
      exact h
theorem gadd_GN (F : Fo) : ∀ G, GN G → F.wf → GN (gadd G F).1 := by
  induction F with
  | nil => intro G h _; rw [gadd_nil]; exact h
  | cons k n u ps r i1 i2 =>
    intro G h hw
    rw [gadd_cons]
    refine i2 _ ?_ hw.2.2
    rw [gadd1_eq]
    exact gnode_GN (i1 G h hw.2.1) hw.1
theorem gadd1_GN {G : List Gn} {t : Ty1} (h : GN G) (hw : TyW t) : GN (gadd1 G t.1 t.2.1 t.2.2.2).1 := by
  have := gadd_GN (.cons t.1 t.2.1 (none, 0, 0) t.2.2.2 .nil) G h ⟨hw.1, hw.2, trivial⟩
  rw [gadd_cons, gadd_nil] at this
  exact this
theorem fold_GN (m : List Eqn) : ∀ s : Sys, GN s.1 → EqW m → GN (m.foldl stp s).1 := by
  induction m with
  | nil => intro s h _; exact h
  | cons x m ih =>
    intro s h hw
    refine ih _ ?_ fun y hy => hw y (List.mem_cons_of_mem _ hy)
    have hx := hw x List.mem_cons_self
    exact gadd1_GN (t := x.2.1) (gadd1_GN (t := x.1) h hx.1) hx.2
theorem cls_GN (l : List Eqn) (h : EqW l) : GN (cls l).1 := fold_GN l _ ⟨by simp [names], fun n hn => by simp [names] at hn⟩ h
theorem EqW.rights {l : List Eqn} (h : EqW l) : EqW (rights l) := fun x hx => h x (List.mem_filter.1 hx).1
/-- A closure, clashed or not. -/
def Clo (O : Nat → Prop) (w : World) (cb : Nat) (s : Sys) (b : Nat) : Prop :=
  (∃ st fs m, CsM O w cb s.1 s.2 st fs m ∧ 0 ≤ st ∧ st ≤ b * 100000000 ∧ 0 ≤ fs ∧ fs ≤ b * 100000000) ∨ (Clash s.1 s.2 ∧ O cb ∧ cb < w.heap.size ∧ ∃ st, CxM w cb st)
section
variable {O T : Nat → Prop} {w w' : World} {cb : Nat} {s : Sys} {b : Nat}
theorem Clo.keep (h : Clo O w cb s b) (he : Else T w w') (ht : ∀ k, O k → ¬ T k) : Clo O w' cb s b := by
  rcases h with ⟨st, fs, m, hC, h2⟩ | ⟨hc, hO, hl, st, hx⟩
  · exact .inl ⟨st, fs, m, hC.keep he ht, h2⟩
  · exact .inr ⟨hc, hO, Nat.lt_of_lt_of_le hl he.size, st, (he.block cb hl (ht cb hO)).trans hx⟩
theorem Clo.tight (h : Clo O w cb s b) : ∃ O' : Nat → Prop, (∀ k, O' k → O k ∧ k < w.heap.size) ∧ Clo O' w cb s b := by
  rcases h with ⟨st, fs, m, hC, h2⟩ | ⟨hc, hO, hl, st, hx⟩
  · obtain ⟨O', h1, h3⟩ := hC.tight
    exact ⟨O', h1, .inl ⟨st, fs, m, h3, h2⟩⟩
  · exact ⟨fun k => k = cb, fun k hk => by subst hk; exact ⟨hO, hl⟩, .inr ⟨hc, rfl, hl, st, hx⟩⟩
/-- A right equation comes in. -/
theorem equate_clo (h : Clo O w cb s b) (x : Eqn) (hT : TyLat O w x.1.1 x.1.2.1 x.1.2.2.1 x.1.2.2.2) (hT' : TyLat O w x.2.1.1 x.2.1.2.1 x.2.1.2.2.1 x.2.1.2.2.2) (hs : s.1.length + sz1 x ≤ 8000) (hb : b ≤ 500) :
    Calls Try.prog 12 #[.pointer (some ⟨cb, 0, none⟩), t1V x.1, t1V x.2.1] w fun e w' => (∃ r, e = .returned (.int .i64 r)) ∧ Clo (fun k => O k ∨ w.heap.size ≤ k) w' cb (stp s x) (b + 1) ∧ Else O w w' := by
  rcases h with ⟨st, fs, m, hC, h1, h2, h3, h4⟩ | ⟨hc, hO, hl, st, hx⟩
  · have hm : m ≤ s.1.length := by
      obtain ⟨⟨A, kn, nx, col, ro, _, _, _, _, hm⟩, _⟩ := hC
      rw [← hm]
      exact Un.cnt_le _ _
    refine (equate_ok hC x.1.1 x.1.2.1 x.2.1.1 x.2.1.2.1 x.1.2.2.1 x.2.1.2.2.1 x.1.2.2.2 x.2.1.2.2.2 hT hT' (by unfold sz1 at hs; omega) (by omega) (by omega)).mono ?_
    rintro e w' ⟨hE, st', j, g1, g2, g3⟩
    have hlen := (stp_pre s x).1
    obtain ⟨X, hX, hXl⟩ := hlen
    have hl2 : (stp s x).1.length ≤ 8000 := by rw [hX, List.length_append]; omega
    have hd : dg (stp s x).1.length ≤ 21 := Un.dg_le (by omega)
    have hle : (stp s x).1.length - s.1.length ≤ 8000 := by omega
    rcases g3 with ⟨rfl, hc, hx, hj⟩ | ⟨rfl, hc, fs', m', hC', f1, f2, hj⟩
    · have hl' : cb < w'.heap.size := (Array.getElem?_eq_some_iff.1 hx).1
      exact ⟨⟨_, rfl⟩, .inr ⟨hc, .inl hC.own, hl', st', hx⟩, hE⟩
    · have hjj : j ≤ 150000 := by
        have e : (stp s x).1.length = (eqG s.1 x.1.1 x.1.2.1 x.1.2.2.2 x.2.1.1 x.2.1.2.1 x.2.1.2.2.2).length := rfl
        omega
      have hbn := bnd hd hjj
      refine ⟨⟨_, rfl⟩, .inl ⟨st', fs', m', hC', by omega, ?_, by omega, ?_⟩, hE⟩
      · have e : dg (stp s x).1.length = dg (eqG s.1 x.1.1 x.1.2.1 x.1.2.2.2 x.2.1.1 x.2.1.2.1 x.2.1.2.2.2).length := rfl
        rw [← e] at g2
        push_cast
        omega
      · have e : dg (stp s x).1.length = dg (eqG s.1 x.1.1 x.1.2.1 x.1.2.2.2 x.2.1.1 x.2.1.2.1 x.2.1.2.2.2).length := rfl
        rw [← e] at f2
        push_cast
        omega
  · refine (equate_cx hx x.1.1 x.1.2.1 x.2.1.1 x.2.1.2.1 x.1.2.2.1 x.2.1.2.2.1).mono ?_
    rintro e w' ⟨rfl, hB⟩
    obtain ⟨⟨X, hX, _⟩, Y, hY⟩ := stp_pre s x
    exact ⟨⟨_, rfl⟩, .inr ⟨hc.later ⟨X, hX⟩ ⟨Y, hY⟩, .inl hO, Nat.lt_of_lt_of_le hl hB.size, st, (hB.block cb hl).trans hx⟩, Else.of_below hB⟩
end
/-- Two closures, beside each other, above block B. -/
def Two (B : Nat) (w : World) (c d : Nat) (s t : Sys) (b : Nat) : Prop :=
  ∃ Oc Od, Clo Oc w c s b ∧ Clo Od w d t b ∧ (∀ k, Oc k → B ≤ k ∧ k < w.heap.size) ∧ (∀ k, Od k → B ≤ k ∧ k < w.heap.size) ∧ ∀ k, Oc k → ¬ Od k
section
variable {w w' : World} {B b c d : Nat} {s t : Sys}
theorem Two.flip (h : Two B w c d s t b) : Two B w d c t s b := by
  obtain ⟨Oc, Od, h1, h2, h3, h4, h5⟩ := h
  exact ⟨Od, Oc, h2, h1, h4, h3, fun k a b => h5 k b a⟩
theorem Clo.more {O : Nat → Prop} {b' : Nat} (h : Clo O w c s b) (hb : b ≤ b') : Clo O w c s b' := by
  rcases h with ⟨st, fs, m, hC, h1, h2, h3, h4⟩ | h
  · exact .inl ⟨st, fs, m, hC, h1, by omega, h3, by omega⟩
  · exact .inr h
theorem Two.below (h : Two B w c d s t b) (hb : Below w.heap.size w w') : Two B w' c d s t b := by
  obtain ⟨Oc, Od, h1, h2, h3, h4, h5⟩ := h
  have hs := hb.size
  exact ⟨Oc, Od, h1.keep (T := fun _ => False) (Else.of_below hb) fun _ _ e => e, h2.keep (T := fun _ => False) (Else.of_below hb) fun _ _ e => e, fun k hk => by have := h3 k hk; omega, fun k hk => by have := h4 k hk; omega, h5⟩
/-- The first one turns. -/
theorem Two.turn {Oc Od O' : Nat → Prop} {b' : Nat} {s' : Sys} (h2 : Clo Od w d t b) (h3 : ∀ k, Oc k → B ≤ k ∧ k < w.heap.size) (h4 : ∀ k, Od k → B ≤ k ∧ k < w.heap.size) (h5 : ∀ k, Oc k → ¬ Od k) (hB : B ≤ w.heap.size) (hE : Else Oc w w') (hc : Clo O' w' c s' b') (hO : ∀ k, O' k → Oc k ∨ w.heap.size ≤ k) (hb : b ≤ b') : Two B w' c d s' t b' ∧ Below B w w' := by
  obtain ⟨O2, g1, g2⟩ := hc.tight
  refine ⟨⟨O2, Od, g2, (h2.keep hE fun k hk hc => h5 k hc hk).more hb, fun k hk => ?_, fun k hk => by have := h4 k hk; have := hE.size; omega, fun k hk hd => ?_⟩, hE.below (fun k hk => (h3 k hk).1) hB⟩
  · obtain ⟨a1, a2⟩ := g1 k hk
    rcases hO k a1 with a3 | a3
    · exact ⟨(h3 k a3).1, a2⟩
    · exact ⟨by omega, a2⟩
  · obtain ⟨a1, a2⟩ := g1 k hk
    rcases hO k a1 with a3 | a3
    · exact h5 k a3 hd
    · have := (h4 k hd).2
      omega
theorem rt1_right {t : Ty1} (h : rt1 t = true) (hu : t.2.2.1.2.1 = t.2.2.2.len) : allAlone (Fo.cons t.1 t.2.1 t.2.2.1 t.2.2.2 .nil).pre = true := by
  unfold rt1 at h
  rw [Bool.and_eq_true] at h
  unfold allAlone at h ⊢
  simp only [Fo.pre, List.append_nil, List.all_cons, Bool.and_eq_true]
  exact ⟨by rw [hu]; exact h.1, h.2⟩
theorem two_left (h : Two B w c d s t b) (hB : B ≤ w.heap.size) (x : Eqn) (hx : EqT B w x) (hw : TyW x.1 ∧ TyW x.2.1) (hr : rtE x = true) (hs : s.1.length + sz1 x ≤ 8000) (hb : b ≤ 500) :
    Calls Try.prog 12 #[.pointer (some ⟨c, 0, none⟩), t1V x.1, t1V x.2.1] w fun e w' => (∃ r, e = .returned (.int .i64 r)) ∧ Two B w' c d (stp s x) t (b + 1) ∧ Below B w w' := by
  obtain ⟨Oc, Od, h1, h2, h3, h4, h5⟩ := h
  have hr' : rt1 x.1 = true ∧ rt1 x.2.1 = true := by unfold rtE at hr; rwa [Bool.and_eq_true] at hr
  have ht1 : TyLat Oc w x.1.1 x.1.2.1 x.1.2.2.1 x.1.2.2.2 := TyLat.low hx.1 (fun k hk => (h3 k hk).1) hB ⟨hw.1.1, hw.1.2, trivial⟩ (rt1_right hr'.1 (TyV.len hx.1))
  have ht2 : TyLat Oc w x.2.1.1 x.2.1.2.1 x.2.1.2.2.1 x.2.1.2.2.2 := TyLat.low hx.2 (fun k hk => (h3 k hk).1) hB ⟨hw.2.1, hw.2.2, trivial⟩ (rt1_right hr'.2 (TyV.len hx.2))
  refine (equate_clo h1 x ht1 ht2 hs hb).mono ?_
  rintro e w' ⟨hr, hC, hE⟩
  exact ⟨hr, Two.turn h2 h3 h4 h5 hB hE hC (fun _ hk => hk) (by omega)⟩
theorem two_right (h : Two B w c d s t b) (hB : B ≤ w.heap.size) (x : Eqn) (hx : EqT B w x) (hw : TyW x.1 ∧ TyW x.2.1) (hr : rtE x = true) (hs : t.1.length + sz1 x ≤ 8000) (hb : b ≤ 500) :
    Calls Try.prog 12 #[.pointer (some ⟨d, 0, none⟩), t1V x.1, t1V x.2.1] w fun e w' => (∃ r, e = .returned (.int .i64 r)) ∧ Two B w' c d s (stp t x) (b + 1) ∧ Below B w w' :=
  (two_left h.flip hB x hx hw hr hs hb).mono fun _ _ ⟨h1, h2, h3⟩ => ⟨h1, h2.flip, h3⟩
end
end Go.Proofs.Ytbnpmeaaaecciaa
/- unify: Equate of what isn't right; the answer's colors, plain. -/
namespace Go.Proofs.Ytbnpmeaaaecciaa
open Go.RowKit
open Un (Else StM rowI UFo own_else dg swp wp_world paint paint_eq cnt Rings)
set_option maxRecDepth 100000
/-- Nodes of one color, of one kind with as many parts, have parts of one color. -/
def ClosedC (G : List Gn) (c : Nat → Nat) : Prop := ∀ (x y : Nat) (p q : Gn), G[x]? = some p → G[y]? = some q → c x = c y → p.1 ≠ 1 → p.1 = q.1 → p.2.2.2.length = q.2.2.2.length → ∀ (j a b : Nat), p.2.2.2[j]? = some a → q.2.2.2[j]? = some b → c a = c b
/-- The answer's colors: nothing is of one color that doesn't belong there; the equations' sides are. -/
structure Rc (G : List Gn) (c : Nat → Nat) (E : List (Nat × Nat)) : Prop where
  sound : ∀ i j, i < G.length → j < G.length → c i = c j → Cl G E i j
  parts : ∀ (x : Nat) (p : Gn), G[x]? = some p → ∀ a ∈ p.2.2.2, a < G.length
theorem Rc.is {G : List Gn} {c : Nat → Nat} {E : List (Nat × Nat)} (h : Rc G c E) (he : ∀ a b, (a, b) ∈ E → a < G.length ∧ b < G.length ∧ c a = c b) (hc : ClosedC G c) {a b : Nat} : Cl G E a b ↔ a = b ∨ (a < G.length ∧ b < G.length ∧ c a = c b) := by
  constructor
  · intro k
    induction k with
    | eq e => exact .inr (he _ _ e)
    | refl a => exact .inl rfl
    | symm _ ih => exact ih.elim (fun e => .inl e.symm) fun e => .inr ⟨e.2.1, e.1, e.2.2.symm⟩
    | trans _ _ i1 i2 =>
      rcases i1 with rfl | i1
      · exact i2
      · rcases i2 with rfl | i2
        · exact .inr i1
        · exact .inr ⟨i1.1, i2.2.1, i1.2.2.trans i2.2.2⟩
    | part _ hp hq p1 q1 hk hl ha hb ih =>
      have la := h.parts _ _ hp _ (List.mem_of_getElem? ha)
      have lb := h.parts _ _ hq _ (List.mem_of_getElem? hb)
      rcases ih with rfl | ih
      · rw [hp] at hq
        cases hq
        rw [ha] at hb
        exact .inl (Option.some.inj hb)
      · exact .inr ⟨la, lb, hc _ _ _ _ hp hq ih.2.2 p1 hk hl _ _ _ ha hb⟩
  · rintro (rfl | ⟨h1, h2, h3⟩)
    · exact .refl _
    · exact h.sound _ _ h1 h2 h3
/-- Two that belong together become of one color. -/
theorem Rc.join {G : List Gn} {c : Nat → Nat} {E : List (Nat × Nat)} (h : Rc G c E) {a b : Nat} (ha : a < G.length) (hb : b < G.length) (hab : Cl G E a b) : Rc G (paint c a b) E := by
  refine ⟨fun i j hi hj e => ?_, h.parts⟩
  have hs : ∀ i, i < G.length → (c i = c a ∨ c i = c b) → Cl G E i a := fun i hi e => by
    rcases e with e | e
    · exact h.sound i a hi ha e
    · exact (h.sound i b hi hb e).trans hab.symm
  rcases (paint_eq _ _ _ _ _).1 e with e | ⟨e1, e2⟩
  · exact h.sound i j hi hj e
  · exact (hs i hi e1).trans (hs j hj e2).symm
/-- Whether they clash, by colors. -/
theorem Rc.clash {G : List Gn} {c : Nat → Nat} {E : List (Nat × Nat)} (h : Rc G c E) (he : ∀ a b, (a, b) ∈ E → a < G.length ∧ b < G.length ∧ c a = c b) (hc : ClosedC G c) : Clash G E ↔ ∃ (x y : Nat) (p q : Gn), G[x]? = some p ∧ G[y]? = some q ∧ y < x ∧ c x = c y ∧ p.1 ≠ 1 ∧ q.1 ≠ 1 ∧ ¬ Fit p q := by
  constructor
  · rintro ⟨x, y, p, q, h1, hp, hq, p1, q1, hf⟩
    rcases (h.is he hc).1 h1 with rfl | ⟨_, _, e⟩
    · rw [hp] at hq
      cases hq
      exact absurd ⟨rfl, rfl⟩ hf
    · rcases Nat.lt_trichotomy x y with hl | rfl | hl
      · exact ⟨y, x, q, p, hq, hp, hl, e.symm, q1, p1, fun f => hf ⟨f.1.symm, f.2.symm⟩⟩
      · rw [hp] at hq
        cases hq
        exact absurd ⟨rfl, rfl⟩ hf
      · exact ⟨x, y, p, q, hp, hq, hl, e, p1, q1, hf⟩
  · rintro ⟨x, y, p, q, hp, hq, _, e, p1, q1, hf⟩
    exact ⟨x, y, p, q, h.sound x y (lt_of_get hp) (lt_of_get hq) e, hp, hq, p1, q1, hf⟩
section
variable {O T : Nat → Prop} {w w' V : World} {cb : Nat} {st : Int} {n m : Nat} {G : List Gn} {fs : Int} {E : List (Nat × Nat)}
set_option maxHeartbeats 4000000 in
theorem equate_wr (h : CsM O w cb G E st fs m) (k n k' n' : Int) (u u' : Sl) (ps' : Fo) (hps' : TyV w.heap.size w ps' (slv u')) (hs : ps'.size ≤ 100000) (hr' : allAlone (Fo.cons k' n' u' ps' .nil).pre = false) :
    Calls Try.prog 12 #[.pointer (some ⟨cb, 0, none⟩), tyVal k n (slv u), tyVal k' n' (slv u')] w fun e w' => e = .returned (.int .i64 1) ∧ Below w.heap.size w w' := by
  obtain ⟨u1, u2, u3⟩ := u
  obtain ⟨v1, v2, v3⟩ := u'
  obtain ⟨⟨A, kn, nx, col, ro, hC, _⟩, _⟩ := h
  obtain ⟨w1, hw1⟩ : ∃ w1, (w.alloc (.cells #[.int .i64 k, .int .i64 n, .slice u1 u2 u3] 36)).alloc (.cells #[.int .i64 k', .int .i64 n', .slice v1 v2 v3] 36) = w1 := ⟨_, rfl⟩
  have hb1 : Below w.heap.size w w1 := by rw [← hw1]; exact ((Below.refl _ _).alloc (Nat.le_refl _) _).alloc (by simp) _
  have hB1 : w1.heap[w.heap.size + 1]? = some (.cells #[.int .i64 k', .int .i64 n', .slice v1 v2 v3] 36) := by rw [← hw1]; have h := heap_alloc_new (w.alloc (.cells #[.int .i64 k, .int .i64 n, .slice u1 u2 u3] 36)) (.cells #[.int .i64 k', .int .i64 n', .slice v1 v2 v3] 36); simp only [World.size_alloc] at h; exact h
  have HERH := Lib.hid (err_cl (hC.below hb1))
  have y0 : w1.cell? ⟨w.heap.size + 1, 0, none⟩ = some (.int .i64 k') := cell_of_row w1 _ 0 _ _ (0, 0) hB1
  have y1 : w1.cell? ⟨w.heap.size + 1, 1, none⟩ = some (.int .i64 n') := cell_of_row w1 _ 1 _ _ (0, 0) hB1
  have y2 : w1.cell? ⟨w.heap.size + 1, 2, none⟩ = some (.slice v1 v2 v3) := cell_of_row w1 _ 2 _ _ (0, 0) hB1
  have HRI := right_any w1 w1.heap.size k' n' (v1, v2, v3) ps' (Nat.le_refl _) (hps'.keep hb1.size fun b off hlt => hb1.cell (p := ⟨b, off, none⟩) hlt) (by omega)
  rw [hr'] at HRI
  have HRIH := Lib.hid HRI
  have HB1 := Lib.hid hb1
  clear hb1 hB1 HRI hC hps'
  dsimp only [tyVal, slv] at HRIH ⊢
  go_enter Try.func12, Try.ntmps12
  go_wp2_with fail
  refine HERH.out.mono ?_
  rintro e w2 ⟨rfl, rfl⟩
  clear HERH hw1
  dsimp only [errN]
  go_wp2_with fail
  refine HRIH.out.mono ?_
  rintro e w3 ⟨rfl, hb3⟩
  have HB3 := Lib.hid (HB1.out.trans (hb3.mono HB1.out.size))
  clear hb3 HRIH y0 y1 y2
  go_wp2_with fail
  exact bodyPost_ret (results_tmp rfl _ _ _) rfl ⟨rfl, HB3.out⟩
set_option maxHeartbeats 4000000 in
theorem equate_wl (h : CsM O w cb G E st fs m) (k n k' n' : Int) (u u' : Sl) (ps ps' : Fo) (hps : TyV w.heap.size w ps (slv u)) (hps' : TyV w.heap.size w ps' (slv u')) (hs : ps.size ≤ 100000 ∧ ps'.size ≤ 100000) (hr : allAlone (Fo.cons k n u ps .nil).pre = false) (hr' : allAlone (Fo.cons k' n' u' ps' .nil).pre = true) :
    Calls Try.prog 12 #[.pointer (some ⟨cb, 0, none⟩), tyVal k n (slv u), tyVal k' n' (slv u')] w fun e w' => e = .returned (.int .i64 1) ∧ Below w.heap.size w w' := by
  obtain ⟨u1, u2, u3⟩ := u
  obtain ⟨v1, v2, v3⟩ := u'
  obtain ⟨⟨A, kn, nx, col, ro, hC, _⟩, _⟩ := h
  obtain ⟨w1, hw1⟩ : ∃ w1, (w.alloc (.cells #[.int .i64 k, .int .i64 n, .slice u1 u2 u3] 36)).alloc (.cells #[.int .i64 k', .int .i64 n', .slice v1 v2 v3] 36) = w1 := ⟨_, rfl⟩
  have hb1 : Below w.heap.size w w1 := by rw [← hw1]; exact ((Below.refl _ _).alloc (Nat.le_refl _) _).alloc (by simp) _
  have hA1 : w1.heap[w.heap.size]? = some (.cells #[.int .i64 k, .int .i64 n, .slice u1 u2 u3] 36) := by rw [← hw1]; exact (Below.heap_alloc _ _ _ (by simp)).trans (heap_alloc_new _ _)
  have hB1 : w1.heap[w.heap.size + 1]? = some (.cells #[.int .i64 k', .int .i64 n', .slice v1 v2 v3] 36) := by rw [← hw1]; have h := heap_alloc_new (w.alloc (.cells #[.int .i64 k, .int .i64 n, .slice u1 u2 u3] 36)) (.cells #[.int .i64 k', .int .i64 n', .slice v1 v2 v3] 36); simp only [World.size_alloc] at h; exact h
  have HERH := Lib.hid (err_cl (hC.below hb1))
  have y0 : w1.cell? ⟨w.heap.size + 1, 0, none⟩ = some (.int .i64 k') := cell_of_row w1 _ 0 _ _ (0, 0) hB1
  have y1 : w1.cell? ⟨w.heap.size + 1, 1, none⟩ = some (.int .i64 n') := cell_of_row w1 _ 1 _ _ (0, 0) hB1
  have y2 : w1.cell? ⟨w.heap.size + 1, 2, none⟩ = some (.slice v1 v2 v3) := cell_of_row w1 _ 2 _ _ (0, 0) hB1
  have HRI := right_any w1 w1.heap.size k' n' (v1, v2, v3) ps' (Nat.le_refl _) (hps'.keep hb1.size fun b off hlt => hb1.cell (p := ⟨b, off, none⟩) hlt) (by omega)
  rw [hr'] at HRI
  have HRIH := Lib.hid HRI
  have HB1 := Lib.hid (And.intro hb1 (And.intro hA1 (And.intro hC (And.intro hps hr))))
  clear hb1 hA1 hB1 HRI hC hps hps' hr
  dsimp only [tyVal, slv] at HRIH ⊢
  go_enter Try.func12, Try.ntmps12
  go_wp2_with fail
  refine HERH.out.mono ?_
  rintro e w2 ⟨rfl, rfl⟩
  clear HERH hw1
  dsimp only [errN]
  go_wp2_with fail
  refine HRIH.out.mono ?_
  rintro e w3 ⟨rfl, hb3⟩
  have hb03 := HB1.out.1.trans (hb3.mono HB1.out.1.size)
  have hA3 := (hb3.block _ (Array.getElem?_eq_some_iff.1 HB1.out.2.1).1).trans HB1.out.2.1
  have hC3 := HB1.out.2.2.1.below hb03
  obtain ⟨cl0, _, _, _, c2, _, _⟩ := hC3.cells
  have HB3 := Lib.hid (And.intro hb03 (And.intro hA3 hC3))
  clear hb3 HRIH y0 y1 y2 hb03 hA3 hC3
  go_wp2_with fail
  obtain ⟨S0, hSof, hSto⟩ : ∃ S0 : World → Prop, (∀ W : World, (W.cell? ⟨cb, 2, none⟩ = some (.pointer (some ⟨A.g, 0, none⟩)) ∧ W.heap[w.heap.size]? = some (.cells #[.int .i64 k, .int .i64 n, .slice u1 u2 u3] 36)) → S0 W) ∧ (∀ W, S0 W → W.cell? ⟨cb, 2, none⟩ = some (.pointer (some ⟨A.g, 0, none⟩)) ∧ W.cell? ⟨w.heap.size, 0, none⟩ = some (.int .i64 k) ∧ W.cell? ⟨w.heap.size, 1, none⟩ = some (.int .i64 n) ∧ W.cell? ⟨w.heap.size, 2, none⟩ = some (.slice u1 u2 u3)) :=
    ⟨_, fun _ h => h, fun W h => ⟨h.1, cell_of_row W _ 0 _ _ (0, 0) h.2, cell_of_row W _ 1 _ _ (0, 0) h.2, cell_of_row W _ 2 _ _ (0, 0) h.2⟩⟩
  have hS : S0 w3.drew := hSof _ ⟨c2, HB3.out.2.1⟩
  have hbd : Below w.heap.size w w3.drew := HB3.out.1.trans ((Below.refl _ w3).drew.mono HB3.out.1.size)
  have HAD := add_wrong w3.drew A.g w3.drew.heap.size (Nat.le_refl _) k n (u1, u2, u3) ps (HB1.out.2.2.2.1.keep hbd.size fun b off hlt => hbd.cell (p := ⟨b, off, none⟩) hlt) (by omega) HB1.out.2.2.2.2
  have EX := Lib.hid hSto
  have HSOF := Lib.hid hSof
  have HADH := Lib.hid HAD
  have HBD := Lib.hid hbd
  dsimp only [tyVal, slv] at HADH
  clear hSof hSto HAD c2 hbd
  refine wp_region_held (S := S0) (by kernel_rfl) ?_
  change wpAnyH _ _ _ _ _ 11 (List.replicate 11 false).toArray _ w3.drew
  simp only [List.replicate_succ, List.replicate_zero]
  refine any_take (i := 0) (some 21) (.pointer (some ⟨cb, 0, none⟩)) rfl (by rfl) (by kernel_rfl) (by kernel_rfl) (by kernel_rfl) (fun _ _ _ h => h) (Or.inl ⟨by kernel_rfl, (fun W hw => by clear hw; go_simp)⟩) hS ?_
  simp only [Act.put, List.setIfInBounds_toArray, List.set_cons_zero, List.set_cons_succ]
  refine any_take (i := 1) (some 22) (.pointer (some ⟨cb, 0, none⟩)) rfl (by rfl) (by kernel_rfl) (by kernel_rfl) (by kernel_rfl) (fun _ _ _ h => h) (Or.inl ⟨by kernel_rfl, (fun W hw => by clear hw; go_simp)⟩) hS ?_
  simp only [Act.put, List.setIfInBounds_toArray, List.set_cons_zero, List.set_cons_succ]
  refine any_take (i := 2) (some 23) (.pointer (some ⟨cb, 2, none⟩)) rfl (by rfl) (by kernel_rfl) (by kernel_rfl) (by kernel_rfl) (fun _ _ _ h => h) (Or.inl ⟨by kernel_rfl, (fun W hw => by clear hw; go_simp)⟩) hS ?_
  simp only [Act.put, List.setIfInBounds_toArray, List.set_cons_zero, List.set_cons_succ]
  refine any_take (i := 3) (some 24) (.pointer (some ⟨A.g, 0, none⟩)) rfl (by rfl) (by kernel_rfl) (by kernel_rfl) (by kernel_rfl) (fun _ _ _ h => h) (Or.inl ⟨by kernel_rfl, (fun W hw => by obtain ⟨n0, n1, n2, n3⟩ := EX.out W hw; clear hw; go_simp)⟩) hS ?_
  simp only [Act.put, List.setIfInBounds_toArray, List.set_cons_zero, List.set_cons_succ]
  refine any_take (i := 4) (some 25) (.agg #[.int .i64 k, .int .i64 n, .slice u1 u2 u3]) rfl (by rfl) (by kernel_rfl) (by kernel_rfl) (by kernel_rfl) (fun _ _ _ h => h) (Or.inl ⟨by kernel_rfl, (fun W hw => by obtain ⟨n0, n1, n2, n3⟩ := EX.out W hw; clear hw; go_simp)⟩) hS ?_
  simp only [Act.put, List.setIfInBounds_toArray, List.set_cons_zero, List.set_cons_succ]
  refine wpAnyH_all (rs := [5]) (by kernel_rfl) (by simp) fun q' hq' => ?_
  obtain rfl : q' = 5 := by simpa using hq'
  refine ops_call (d := some 26) rfl (by rfl) (by kernel_rfl) (by go_simp) (HADH.out.mono ?_)
  rintro e w4 ⟨rfl, hb4⟩
  have hA4 := (hb4.block w.heap.size (Array.getElem?_eq_some_iff.1 HB3.out.2.1).1).trans HB3.out.2.1
  have hC4 := HB3.out.2.2.below ((Below.refl _ w3).drew.trans hb4)
  obtain ⟨_, _, _, _, c24, _, _⟩ := hC4.cells
  have hS4 := HSOF.out w4 ⟨c24, hA4⟩
  have HB4 := Lib.hid (HBD.out.trans (hb4.mono HBD.out.size))
  clear hb4 hA4 hC4 c24
  refine ⟨_, rfl, hS4, ?_⟩
  simp only [Act.put, List.setIfInBounds_toArray, List.set_cons_zero, List.set_cons_succ]
  refine any_take (i := 6) (some 20) (.tuple #[.int .i64 0, .int .i64 1]) rfl (by rfl) (by kernel_rfl) (by kernel_rfl) (by kernel_rfl) (fun _ _ _ h => h) (Or.inl ⟨by kernel_rfl, (fun W hw => by clear hw; go_simp)⟩) hS4 ?_
  simp only [Act.put, List.setIfInBounds_toArray, List.set_cons_zero, List.set_cons_succ]
  refine any_take (i := 7) (some 27) (.int .i64 0) rfl (by rfl) (by kernel_rfl) (by kernel_rfl) (by kernel_rfl) (fun _ _ _ h => h) (Or.inl ⟨by kernel_rfl, (fun W hw => by clear hw; go_simp)⟩) hS4 ?_
  simp only [Act.put, List.setIfInBounds_toArray, List.set_cons_zero, List.set_cons_succ]
  refine any_take (i := 8) (some 28) (.int .i64 1) rfl (by rfl) (by kernel_rfl) (by kernel_rfl) (by kernel_rfl) (fun _ _ _ h => h) (Or.inl ⟨by kernel_rfl, (fun W hw => by clear hw; go_simp)⟩) hS4 ?_
  simp only [Act.put, List.setIfInBounds_toArray, List.set_cons_zero, List.set_cons_succ]
  refine any_take (i := 9) (some 8) (.int .i64 0) rfl (by rfl) (by kernel_rfl) (by kernel_rfl) (by kernel_rfl) (fun _ _ _ h => h) (Or.inl ⟨by kernel_rfl, (fun W hw => by clear hw; go_simp)⟩) hS4 ?_
  simp only [Act.put, List.setIfInBounds_toArray, List.set_cons_zero, List.set_cons_succ]
  refine any_take (i := 10) (some 9) (.int .i64 1) rfl (by rfl) (by kernel_rfl) (by kernel_rfl) (by kernel_rfl) (fun _ _ _ h => h) (Or.inl ⟨by kernel_rfl, (fun W hw => by clear hw; go_simp)⟩) hS4 ?_
  simp only [Act.put, List.setIfInBounds_toArray, List.set_cons_zero, List.set_cons_succ]
  refine wpAnyH_done (by kernel_rfl) ?_ _
  clear hS hS4 HADH EX HSOF
  go_wp2_with fail
  exact bodyPost_ret (results_tmp rfl _ _ _) rfl ⟨rfl, HB4.out⟩
end
end Go.Proofs.Ytbnpmeaaaecciaa
/- unify: First, walked. -/
namespace Go.Proofs.Ytbnpmeaaaecciaa
open Go.RowKit
open Un (Else dg cnt own_else wp_world)
set_option maxRecDepth 100000
/-- One closure, above block B, that doesn't clash. -/
def One1 (B : Nat) (w : World) (c : Nat) (s : Sys) (b : Nat) : Prop :=
  ∃ O st fs m, CsM O w c s.1 s.2 st fs m ∧ (0 ≤ st ∧ st ≤ b * 100000000 ∧ 0 ≤ fs ∧ fs ≤ b * 100000000) ∧ ∀ k, O k → B ≤ k ∧ k < w.heap.size
/-- The first equation that can't come in, and why. -/
def FirstIs (l : List Eqn) (i : Nat) (e : Int) : Prop :=
  (∃ x, l[i]? = some x ∧ (∀ y ∈ l.take i, rtE y = true) ∧ ¬ Clash (cls (l.take i)).1 (cls (l.take i)).2 ∧ ((rtE x = false ∧ e = 1) ∨ (rtE x = true ∧ Clash (cls (l.take (i + 1))).1 (cls (l.take (i + 1))).2 ∧ e = 7))) ∨
  (i = 0 ∧ e = 0 ∧ (∀ y ∈ l, rtE y = true) ∧ ¬ Clash (cls l).1 (cls l).2)
theorem sz1_le_esz {L : List Eqn} {y : Eqn} (h : y ∈ L) : sz1 y ≤ esz L := by
  induction L with
  | nil => cases h
  | cons x L ih =>
    have e : esz (x :: L) = sz1 x + esz L := by simp [esz]
    rcases List.mem_cons.1 h with rfl | h
    · omega
    · have := ih h; omega
section
variable {w w' : World} {B b c : Nat} {s : Sys}
theorem One1.below (h : One1 B w c s b) (hb : Below w.heap.size w w') : One1 B w' c s b := by
  obtain ⟨O, st, fs, m, hC, h2, h3⟩ := h
  exact ⟨O, st, fs, m, hC.below hb, h2, fun k hk => by have := h3 k hk; have := hb.size; omega⟩
theorem One1.noClash (h : One1 B w c s b) : ¬ Clash s.1 s.2 := by
  obtain ⟨O, st, fs, m, hC, _⟩ := h
  exact hC.noClash
theorem one_eq (h : One1 B w c s b) (hB : B ≤ w.heap.size) (x : Eqn) (hx : EqT B w x) (hw : TyW x.1 ∧ TyW x.2.1) (hr : rtE x = true) (hs : s.1.length + sz1 x ≤ 8000) (hb : b ≤ 500) :
    Calls Try.prog 12 #[.pointer (some ⟨c, 0, none⟩), t1V x.1, t1V x.2.1] w fun e w' => ∃ r : Int, e = .returned (.int .i64 r) ∧ Below B w w' ∧ ((r = 7 ∧ Clash (stp s x).1 (stp s x).2) ∨ (r = 0 ∧ One1 B w' c (stp s x) (b + 1))) := by
  obtain ⟨O, st, fs, m, hC, ⟨g1, g2, g3, g4⟩, h3⟩ := h
  have hr' : rt1 x.1 = true ∧ rt1 x.2.1 = true := by unfold rtE at hr; rwa [Bool.and_eq_true] at hr
  have ht1 : TyLat O w x.1.1 x.1.2.1 x.1.2.2.1 x.1.2.2.2 := TyLat.low hx.1 (fun k hk => (h3 k hk).1) hB ⟨hw.1.1, hw.1.2, trivial⟩ (rt1_right hr'.1 (TyV.len hx.1))
  have ht2 : TyLat O w x.2.1.1 x.2.1.2.1 x.2.1.2.2.1 x.2.1.2.2.2 := TyLat.low hx.2 (fun k hk => (h3 k hk).1) hB ⟨hw.2.1, hw.2.2, trivial⟩ (rt1_right hr'.2 (TyV.len hx.2))
  have hm : m ≤ s.1.length := by
    obtain ⟨⟨A, kn, nx, col, ro, _, _, _, _, hm⟩, _⟩ := hC
    rw [← hm]
    exact Un.cnt_le _ _
  refine (equate_ok hC x.1.1 x.1.2.1 x.2.1.1 x.2.1.2.1 x.1.2.2.1 x.2.1.2.2.1 x.1.2.2.2 x.2.1.2.2.2 ht1 ht2 (by unfold sz1 at hs; omega) (by omega) (by omega)).mono ?_
  rintro e w' ⟨hE, st', j, q1, q2, q3⟩
  obtain ⟨X, hX, hXl⟩ := (stp_pre s x).1
  have hl2 : (stp s x).1.length ≤ 8000 := by rw [hX, List.length_append]; omega
  have hd : dg (stp s x).1.length ≤ 21 := Un.dg_le (by omega)
  have hB' : Below B w w' := hE.below (fun k hk => (h3 k hk).1) hB
  rcases q3 with ⟨rfl, hc, hx, hj⟩ | ⟨rfl, hc, fs', m', hC', f1, f2, hj⟩
  · exact ⟨7, rfl, hB', .inl ⟨rfl, hc⟩⟩
  · have hjj : j ≤ 150000 := by
      have e : (stp s x).1.length = (eqG s.1 x.1.1 x.1.2.1 x.1.2.2.2 x.2.1.1 x.2.1.2.1 x.2.1.2.2.2).length := rfl
      omega
    have hbn := bnd hd hjj
    obtain ⟨O', a1, a2⟩ := hC'.tight
    have e : dg (stp s x).1.length = dg (eqG s.1 x.1.1 x.1.2.1 x.1.2.2.2 x.2.1.1 x.2.1.2.1 x.2.1.2.2.2).length := rfl
    rw [← e] at q2 f2
    refine ⟨0, rfl, hB', .inr ⟨rfl, O', st', fs', m', a2, ⟨by omega, by push_cast; omega, by omega, by push_cast; omega⟩, fun k hk => ?_⟩⟩
    obtain ⟨b1, b2⟩ := a1 k hk
    refine ⟨?_, b2⟩
    rcases b1 with b1 | b1
    · exact (h3 k b1).1
    · omega
/-- Not right: nothing turns. -/
theorem one_wrong (h : One1 B w c s b) (x : Eqn) (hx : EqT w.heap.size w x) (hr : rtE x = false) (hs : sz1 x ≤ 8000) :
    Calls Try.prog 12 #[.pointer (some ⟨c, 0, none⟩), t1V x.1, t1V x.2.1] w fun e w' => e = .returned (.int .i64 1) ∧ Below w.heap.size w w' := by
  obtain ⟨O, st, fs, m, hC, _⟩ := h
  have key : ∀ t : Ty1, TyV w.heap.size w t.2.2.2 (slv t.2.2.1) → allAlone (Fo.cons t.1 t.2.1 t.2.2.1 t.2.2.2 .nil).pre = rt1 t := fun t ht => by
    unfold rt1 allAlone
    simp only [Fo.pre, List.append_nil, List.all_cons]
    rw [show t.2.2.1.2.1 = t.2.2.2.len from TyV.len ht]
  unfold sz1 at hs
  unfold rtE at hr
  by_cases h2 : rt1 x.2.1 = true
  · have h1 : rt1 x.1 = false := by rw [h2, Bool.and_true] at hr; exact hr
    exact equate_wl hC x.1.1 x.1.2.1 x.2.1.1 x.2.1.2.1 x.1.2.2.1 x.2.1.2.2.1 x.1.2.2.2 x.2.1.2.2.2 hx.1 hx.2 ⟨by omega, by omega⟩ ((key x.1 hx.1).trans h1) ((key x.2.1 hx.2).trans h2)
  · exact equate_wr hC x.1.1 x.1.2.1 x.2.1.1 x.2.1.2.1 x.1.2.2.1 x.2.1.2.2.1 x.2.1.2.2.2 hx.2 (by omega) ((key x.2.1 hx.2).trans (by simpa using h2))
set_option maxHeartbeats 4000000 in
theorem first_any (w : World) (l : List Eqn) (v : Value) (h : EqV w.heap.size w l v) (hw : EqW l) (hl : l.length ≤ 20) (hs : esz l ≤ 160) :
    Calls Try.prog 8 #[v] w fun e w' => ∃ (i : Nat) (r : Int), e = .returned (.tuple #[.int .i64 (i : Nat), .int .i64 r]) ∧ FirstIs l i r ∧ Below w.heap.size w w' := by
  obtain ⟨A, cA, rfl⟩ := h.form
  have H := Lib.hid (And.intro h hw)
  clear h hw
  go_enter Try.func8, Try.ntmps8
  go_wp2_with fail
  refine (new_cs w).mono ?_
  rintro e w1 ⟨c, rfl, hC1, hb1⟩
  have H1 : Hid (One1 w.heap.size w1 c ([], []) 0 ∧ Below w.heap.size w w1) := Lib.hid (by
    obtain ⟨O', a1, a2⟩ := hC1.tight
    exact ⟨⟨O', 0, 0, 0, a2, by simp, fun k hk => a1 k hk⟩, hb1⟩)
  clear hC1 hb1
  go_wp2_with fail
  go_loopw [11] (fun s wr => ∃ j : Nat, s = .int .i64 (j : Nat) ∧ j ≤ l.length ∧ One1 w.heap.size wr c (cls (l.take j)) j ∧ (∀ y ∈ l.take j, rtE y = true) ∧ Below w.heap.size w wr) (fun s _ => l.length - (intOf s).toNat)
  case atStart => exact ⟨0, rfl, Nat.zero_le _, H1.out.1, fun y hy => by simp at hy, H1.out.2⟩
  case round =>
    obtain ⟨j, rfl, hj, hO, hrt, hb⟩ := hrel
    have HT := Lib.hid (And.intro hO (And.intro hrt hb))
    clear hO hrt hb H1
    by_cases hjl : j < l.length
    · have f1 : decide ((j : Int) < (l.length : Int)) = true := decide_eq_true (by omega)
      obtain ⟨b, off, hA3, _, hat⟩ := (H.out.1.below HT.out.2.2).at j hjl
      cases hA3
      have hty := (H.out.1.below HT.out.2.2).ty j hjl
      have hxs := sz1_le_esz (List.getElem_mem hjl)
      obtain ⟨x, hx⟩ : ∃ x, l[j] = x := ⟨_, rfl⟩
      have hxw := H.out.2 _ (List.getElem_mem hjl)
      rw [hx] at hat hty hxw hxs
      obtain ⟨⟨k0, n0, ⟨u1, u2, u3⟩, F⟩, ⟨k1, n1, ⟨v1, v2, v3⟩, F'⟩, a0, a1⟩ := x
      obtain ⟨x0, x1, x2, x3, x4, x5, x6, x7⟩ := hat
      dsimp only [slv] at x0 x1 x2 x3 x4 x5 x6 x7
      have HX := Lib.hid (And.intro hx (And.intro hty (And.intro hxw hxs)))
      clear hx hty hxw hxs
      go_upto_region 5 with fail
      refine wp_world (fun Z => Z.heap[wr.heap.size]? = some (Obj.cells #[.int .i64 k0, .int .i64 n0, .slice u1 u2 u3, .int .i64 k1, .int .i64 n1, .slice v1 v2 v3, .int .i64 a0, .int .i64 a1] 40) ∧ Below wr.heap.size wr Z) ⟨heap_alloc_new wr _, (Below.refl _ wr).alloc (Nat.le_refl _) _⟩ ?_
      rintro Z ⟨hz, hbZ⟩
      have z0 : Z.cell? ⟨wr.heap.size, 0, none⟩ = some _ := cell_of_row Z _ 0 _ _ (0, 0) hz
      have z1 : Z.cell? ⟨wr.heap.size, 1, none⟩ = some _ := cell_of_row Z _ 1 _ _ (0, 0) hz
      have z2 : Z.cell? ⟨wr.heap.size, 2, none⟩ = some _ := cell_of_row Z _ 2 _ _ (0, 0) hz
      have z3 : Z.cell? ⟨wr.heap.size, 3, none⟩ = some _ := cell_of_row Z _ 3 _ _ (0, 0) hz
      have z4 : Z.cell? ⟨wr.heap.size, 4, none⟩ = some _ := cell_of_row Z _ 4 _ _ (0, 0) hz
      have z5 : Z.cell? ⟨wr.heap.size, 5, none⟩ = some _ := cell_of_row Z _ 5 _ _ (0, 0) hz
      have hbWZ := HT.out.2.2.trans (hbZ.mono HT.out.2.2.size)
      have HZ := Lib.hid (And.intro hbZ hbWZ)
      clear hz hbZ hbWZ x0 x1 x2 x3 x4 x5 x6 x7
      have htyZ : EqT w.heap.size Z ((k0, n0, (u1, u2, u3), F), (k1, n1, (v1, v2, v3), F'), a0, a1) := HX.out.2.1.keep (Nat.le_refl _) fun b off hlt => (HZ.out.1.mono HT.out.2.2.size).cell (p := ⟨b, off, none⟩) hlt
      have hlen := cls_len (l.take j)
      have hest := esz_take l j
      cases hr : rtE ((k0, n0, (u1, u2, u3), F), (k1, n1, (v1, v2, v3), F'), a0, a1) with
      | false =>
        have HEQ := Lib.hid (one_wrong (HT.out.1.below HZ.out.1) _ (htyZ.keep HZ.out.2.size fun _ _ _ => rfl) hr (by have := HX.out.2.2.2; omega))
        have HR := Lib.hid hr
        dsimp only [t1V, tyVal, slv] at HEQ
        clear htyZ hr hlen hest
        go_wp2_with fail
        refine HEQ.out.mono ?_
        rintro e w3 ⟨rfl, hb3⟩
        have HB3 := Lib.hid (HZ.out.2.trans (hb3.mono HZ.out.2.size))
        clear hb3 HEQ z0 z1 z2 z3 z4 z5
        go_wp2_with fail
        refine bodyPost_ret (results_tmp2 rfl _ _ _) rfl ⟨j, 1, rfl, .inl ⟨_, List.getElem?_eq_getElem hjl, HT.out.2.1, HT.out.1.noClash, .inl ⟨?_, rfl⟩⟩, HB3.out⟩
        rw [HX.out.1]
        exact HR.out
      | true =>
        have HEQ := Lib.hid (one_eq (HT.out.1.below HZ.out.1) HZ.out.2.size _ htyZ HX.out.2.2.1 hr (by have := HX.out.2.2.2; omega) (by omega))
        have HR := Lib.hid hr
        dsimp only [t1V, tyVal, slv] at HEQ
        clear htyZ hr hlen hest
        go_wp2_with fail
        refine HEQ.out.mono ?_
        rintro e w3 ⟨r, rfl, hb3, hr⟩
        have HB3 := Lib.hid (HZ.out.2.trans hb3)
        have hst := cls_step l j hjl
        rw [HX.out.1] at hst
        rw [← hst] at hr
        clear hb3 HEQ z0 z1 z2 z3 z4 z5 hst
        rcases hr with ⟨rfl, hc⟩ | ⟨rfl, hO⟩
        · have HC := Lib.hid hc
          clear hc
          go_wp2_with fail
          refine bodyPost_ret (results_tmp2 rfl _ _ _) rfl ⟨j, 7, rfl, .inl ⟨_, List.getElem?_eq_getElem hjl, HT.out.2.1, HT.out.1.noClash, .inr ⟨?_, HC.out, rfl⟩⟩, HB3.out⟩
          rw [HX.out.1]
          exact HR.out
        · have HC := Lib.hid hO
          clear hO
          go_wp2_with fail
          refine ⟨⟨j + 1, congrArg (Value.int .i64) (by omega), by omega, HC.out, fun y hy => ?_, HB3.out⟩, ?_⟩
          · rw [List.take_add_one, List.getElem?_eq_getElem hjl] at hy
            rcases List.mem_append.1 hy with hy | hy
            · exact HT.out.2.1 y hy
            · simp only [Option.toList_some, List.mem_singleton] at hy
              rw [hy, HX.out.1]
              exact HR.out
          · show l.length - (intOf (.int .i64 ((j : Int) + 1))).toNat < l.length - (intOf (.int .i64 (j : Nat))).toNat
            simp only [intOf]
            omega
    · have f1 : decide ((j : Int) < (l.length : Int)) = false := decide_eq_false (by omega)
      have hjj : j = l.length := by omega
      go_wp2_with fail
      obtain ⟨hO, hrt, hb⟩ := HT.out
      rw [hjj, List.take_length] at hO hrt
      exact bodyPost_ret (results_tmp2 rfl _ _ _) rfl ⟨0, 0, rfl, .inr ⟨rfl, rfl, hrt, hO.noClash⟩, hb⟩
end
end Go.Proofs.Ytbnpmeaaaecciaa
/- unify: the answer's Whole, walked. -/
namespace Go.Proofs.Ytbnpmeaaaecciaa
open Go.RowKit
open Un (rowI rowI_get own_shape paint)
set_option maxRecDepth 100000
/-- The first node of a node's color that is no variable; -1: there is none. -/
def WholeIs (G : List Gn) (c : Nat → Nat) (i : Nat) (r : Int) : Prop :=
  (∃ (k : Nat) (p : Gn), r = k ∧ G[k]? = some p ∧ c k = c i ∧ p.1 ≠ 1) ∨ (r = -1 ∧ ∀ (k : Nat) (p : Gn), G[k]? = some p → c k = c i → p.1 = 1)
set_option maxHeartbeats 4000000 in
theorem whole_any (w : World) (M : List Rm) (vm vs : Value) (c : Nat → Nat) (B : Nat) (hM : Rd w 4 vm M.length (M.flatMap rmC)) (hs : w.ownsRow B 3 1 vs M.length (rowI M.length c)) (hl : M.length ≤ 1000000) (i : Nat) (hi : i < M.length) :
    Calls Try.prog 17 #[.agg #[vm, vs], .int .i64 (i : Nat)] w fun e w' => ∃ r : Int, e = .returned (.int .i64 r) ∧ WholeIs (gM M) c i r ∧ Below w.heap.size w w' := by
  obtain ⟨A, c0, rfl⟩ := hM.form
  obtain ⟨q, hq⟩ : ∃ q, M.length = q := ⟨_, rfl⟩
  rw [hq] at hl hi hs ⊢
  obtain ⟨g, cv, rfl, _, hgl⟩ := own_shape hs (by omega)
  obtain ⟨W0, hW0⟩ : ∃ W0, w.alloc (.cells #[.slice A q c0, .slice (some ⟨g, 0, none⟩) q cv] 46) = W0 := ⟨_, rfl⟩
  have hb0 : Below w.heap.size w W0 := by rw [← hW0]; exact (Below.refl _ _).alloc (Nat.le_refl _) _
  have hx0 : W0.heap[w.heap.size]? = some (Obj.cells #[.slice A q c0, .slice (some ⟨g, 0, none⟩) q cv] 46) := by rw [← hW0]; exact heap_alloc_new w _
  have hl0 : w.heap.size < W0.heap.size := (Array.getElem?_eq_some_iff.1 hx0).1
  have x0 : W0.cell? ⟨w.heap.size, 0, none⟩ = some (.slice A q c0) := cell_of_row W0 _ 0 _ _ (0, 0) hx0
  have x1 : W0.cell? ⟨w.heap.size, 1, none⟩ = some (.slice (some ⟨g, 0, none⟩) q cv) := cell_of_row W0 _ 1 _ _ (0, 0) hx0
  have hgl0 : g < W0.heap.size := by omega
  have HM := Lib.hid (And.intro hq hM)
  have HS := Lib.hid hs
  have HB0 := Lib.hid hb0
  clear hM hs hx0 hb0 hq
  go_enter Try.func17, Try.ntmps17
  go_wp2_with fail
  go_loopw [5] (fun t wr => ∃ j : Nat, j ≤ q ∧ t = .int .i64 j ∧ (∀ (k : Nat) (p : Gn), k < j → (gM M)[k]? = some p → c k = c i → p.1 = 1) ∧ Below W0.heap.size W0 wr) (fun t _ => q - (intOf t).toNat)
  case atStart => exact ⟨0, Nat.zero_le _, rfl, fun k p h => absurd h (Nat.not_lt_zero _), Below.refl _ _⟩
  case round =>
    obtain ⟨j, hj, rfl, hja, hb⟩ := hrel
    have HBW := Lib.hid hb
    have HJA := Lib.hid hja
    clear hja hb
    have y0 : wr.cell? ⟨w.heap.size, 0, none⟩ = some (.slice A q c0) := (HBW.out.cell (p := ⟨w.heap.size, 0, none⟩) hl0).trans x0
    have y1 : wr.cell? ⟨w.heap.size, 1, none⟩ = some (.slice (some ⟨g, 0, none⟩) q cv) := (HBW.out.cell (p := ⟨w.heap.size, 1, none⟩) hl0).trans x1
    have HBT := Lib.hid (HB0.out.trans (HBW.out.mono (Nat.le_of_lt hl0)))
    by_cases hjl : j < q
    · have hjM : j < M.length := by rw [HM.out.1]; exact hjl
      obtain ⟨b1, o1, cap1, hv1, _, _, hlt1, hc1⟩ := HM.out.2.2.resolve_left (by rintro ⟨h, _⟩; omega)
      injection hv1 with hA1 _ hcc1
      subst hA1; subst hcc1
      obtain ⟨p0, -, -, -⟩ := rmC_at M j hjM
      have hgj : (gM M)[j]? = some (rG M[j].1) := by simp [gM, hjM]
      obtain ⟨mj, hmj⟩ : ∃ mj, M[j] = mj := ⟨_, rfl⟩
      rw [hmj] at p0 hgj
      obtain ⟨x, hx⟩ : ∃ x, mj.1.1 = x := ⟨_, rfl⟩
      rw [hx] at p0
      have z0 : wr.cell? ⟨b1, o1 + j * 4, none⟩ = some (.int .i64 x) := (HBT.out.cell (p := ⟨b1, o1 + j * 4, none⟩) hlt1).trans (hc1 _ _ p0)
      have r1 : wr.cell? ⟨g, j, none⟩ = some (.int .i64 (c j : Nat)) := (HBT.out.cell (p := ⟨g, j, none⟩) hgl).trans ((HS.out.cellAt j (by omega)).trans (rowI_get hjl))
      have r2 : wr.cell? ⟨g, i, none⟩ = some (.int .i64 (c i : Nat)) := (HBT.out.cell (p := ⟨g, i, none⟩) hgl).trans ((HS.out.cellAt i (by omega)).trans (rowI_get hi))
      have HG := Lib.hid (And.intro hgj hx)
      clear hx hc1 hgj p0 hmj hjM
      by_cases he : c j = c i
      · have f2 : ((c j : Int) == (c i : Int)) = true := by rw [he]; simp
        by_cases hx1 : x = 1
        · subst hx1
          have HE := Lib.hid he
          clear he
          go_wp2_with fail
          go_quiet (fail)
          go_wp2_with fail
          go_roundw
          case rel =>
            refine ⟨j + 1, by omega, by go_num, fun k p hk hp hc => ?_, below_drewN HBW.out _⟩
            rcases Nat.lt_or_ge k j with h | h
            · exact HJA.out k p h hp hc
            · obtain rfl : k = j := by omega
              rw [HG.out.1] at hp
              cases hp
              exact HG.out.2
          case measure => simp [intOf]; omega
        · have f3 : (x != 1) = true := by simpa using hx1
          have HE := Lib.hid (And.intro he hx1)
          clear he hx1
          go_wp2_with fail
          go_quiet (fail)
          go_wp2_with fail
          go_ret
          exact ⟨j, rfl, .inl ⟨j, _, rfl, HG.out.1, HE.out.1, by show mj.1.1 ≠ 1; rw [HG.out.2]; exact HE.out.2⟩, below_drewN HBT.out _⟩
      · have f2 : ((c j : Int) == (c i : Int)) = false := by simp; omega
        have HE := Lib.hid he
        clear he
        go_wp2_with fail
        go_quiet (fail)
        go_wp2_with fail
        go_roundw
        case rel =>
          refine ⟨j + 1, by omega, by go_num, fun k p hk hp hc => ?_, below_drewN HBW.out _⟩
          rcases Nat.lt_or_ge k j with h | h
          · exact HJA.out k p h hp hc
          · obtain rfl : k = j := by omega
            exact absurd hc HE.out
        case measure => simp [intOf]; omega
    · obtain rfl : j = q := by omega
      go_wp2_with fail
      go_ret
      refine ⟨-1, rfl, .inr ⟨rfl, fun k p hp hc => HJA.out k p ?_ hp hc⟩, HBT.out⟩
      have := (List.getElem?_eq_some_iff.1 hp).1
      have h2 : (gM M).length = M.length := by simp [gM]
      have h3 := HM.out.1
      omega
end Go.Proofs.Ytbnpmeaaaecciaa
