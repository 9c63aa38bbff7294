/- Texts of one proof, one behind the other. -/
import Derived.Test.YtojgiienohpaiaaGreatMgCycleTells27
import Derived.Test.YtojgiienohpaiaaGreatMgCycleTells20
namespace Go.Proofs.YtojgiienohpaiaaGreat
open Go.RowKit
open Un (rowI rowI_get own_shape paint)
set_option maxRecDepth 100000
def Rg (D : Nat → Prop) (B : Nat) (w : World) (v : Value) (M : List Rm) (G : List Gn) : Prop := RgM D B w v M ∧ gM M = G ∧ GI G
theorem Rg.below {D : Nat → Prop} {B : Nat} {w w' : World} {v : Value} {M : List Rm} {G : List Gn} (h : Rg D B w v M G) (hB : B ≤ w.heap.size) (hb : Below w.heap.size w w') : Rg D B w' v M G := ⟨h.1.below hB hb, h.2⟩
theorem Rg.len {D : Nat → Prop} {B : Nat} {w : World} {v : Value} {M : List Rm} {G : List Gn} (h : Rg D B w v M G) : M.length = G.length := by rw [← h.2.1]; simp [gM]
theorem Rg.rows {D : Nat → Prop} {B : Nat} {w : World} {v : Value} {M : List Rm} {G : List Gn} (h : Rg D B w v M G) : ∀ x ∈ M, x.2.2.1 = x.1.2.2.2.2.length := by
  intro x hx
  obtain ⟨A, c, e⟩ := (h.1.nodes x hx).2.1.form
  unfold slv at e
  injection e
theorem radd_rt (D : Nat → Prop) (B : Nat) (w : World) (vm : Value) (M : List Rm) (G : List Gn) (h : Rg D B w vm M G) (hD : ∀ b, w.heap.size ≤ b → D b) (hB : B ≤ w.heap.size) (x : Ty1) (ht : TyV B w x.2.2.2 (slv x.2.2.1)) (hr : rt1 x = true) (hl : G.length + (1 + x.2.2.2.size) ≤ 100000) :
    Calls Tryz.prog 32 #[vm, t1V x] w fun e w' => ∃ (v' : Value) (M' : List Rm), e = .returned (.tuple #[v', .int .i64 ((gadd1 G x.1 x.2.1 x.2.2.2).2 : Nat)]) ∧ Rg D B w' v' M' (gadd1 G x.1 x.2.1 x.2.2.2).1 ∧ Below w.heap.size w w' := by
  obtain ⟨hM, hg, hG⟩ := id h
  have hlen := h.len
  have ha := rt1_right hr (TyV.len ht)
  have hlo : LenOk (Fo.cons x.1 x.2.1 x.2.2.1 x.2.2.2 .nil) := ⟨TyV.len ht, (TyV.list ht).lenOk, trivial⟩
  have hv := vok_of ha hlo
  have hG2 : GI ((M1 M).map rG) := by rw [← gM_eq, hg]; exact hG
  obtain ⟨g1, g2, g3⟩ := radd1_G (M1 M) x.1 x.2.1 x.2.2.1 x.2.2.2 hG2 hv
  rw [← gM_eq, hg] at g1 g2
  rw [g1] at g3
  refine (raddw_any B (x.2.2.2.size + 1) D x.2.2.2 x.1 x.2.1 x.2.2.1 w M vm (by omega) (by omega) hB ht hv.1 hv.2.1 hD hM).mono ?_
  rintro e w' ⟨v', M', rfl, hM', hR', hb⟩
  refine ⟨v', M', by rw [g2], ⟨hR', by rw [gM_eq, hM', g1], g3⟩, hb⟩
def DoneP (G : List Gn) (c : Nat → Nat) (i k : Nat) : Prop := ∀ p q : Gn, G[i]? = some p → G[k]? = some q → c i = c k → p.1 ≠ 1 → p.1 = q.1 → p.2.2.2.length = q.2.2.2.length → ∀ (j a b : Nat), p.2.2.2[j]? = some a → q.2.2.2[j]? = some b → c a = c b
theorem closed_done {G : List Gn} {c : Nat → Nat} (h : ∀ i k, i < G.length → k < i → DoneP G c i k) : ClosedC G c := by
  intro x y p q hx hy hc h1 hk hl j a b ha hb
  have lx := (List.getElem?_eq_some_iff.1 hx).1
  have ly := (List.getElem?_eq_some_iff.1 hy).1
  rcases Nat.lt_trichotomy x y with h2 | rfl | h2
  · exact (h y x ly h2 q p hy hx hc.symm (by rwa [← hk]) hk.symm hl.symm j b a hb ha).symm
  · rw [hx] at hy
    cases hy
    rw [ha] at hb
    cases hb
    rfl
  · exact h x y lx h2 p q hx hy hc h1 hk hl j a b ha hb
theorem Rc.part {G : List Gn} {c : Nat → Nat} {E : List (Nat × Nat)} (h : Rc G c E) {i k j a b : Nat} {p q : Gn} (hp : G[i]? = some p) (hq : G[k]? = some q) (hc : c i = c k) (h1 : p.1 ≠ 1) (hk : p.1 = q.1) (hl : p.2.2.2.length = q.2.2.2.length) (ha : p.2.2.2[j]? = some a) (hb : q.2.2.2[j]? = some b) : a < G.length ∧ b < G.length ∧ Rc G (paint c a b) E := by
  have la := h.parts _ _ hp _ (List.mem_of_getElem? ha)
  have lb := h.parts _ _ hq _ (List.mem_of_getElem? hb)
  exact ⟨la, lb, h.join la lb (.part (h.sound i k (List.getElem?_eq_some_iff.1 hp).1 (List.getElem?_eq_some_iff.1 hq).1 hc) hp hq h1 (by rwa [← hk]) hk hl ha hb)⟩
def TyN (x : Ty1) : Prop := x.2.2.1.2.1 = x.2.2.2.len ∧ LenOk x.2.2.2
def SysOk (s : Sys) : Prop := GI s.1 ∧ Gp s.1 ∧ ∀ a b, (a, b) ∈ s.2 → a < s.1.length ∧ b < s.1.length
theorem SysOk.stp {s : Sys} (h : SysOk s) (x : Eqn) (hr : rtE x = true) (h1 : TyN x.1) (h2 : TyN x.2.1) : SysOk (stp s x) := by
  obtain ⟨hG, hp, he⟩ := h
  obtain ⟨r1, r2⟩ : rt1 x.1 = true ∧ rt1 x.2.1 = true := by unfold rtE at hr; rwa [Bool.and_eq_true] at hr
  obtain ⟨⟨X1, q1, _⟩, g1, p1, l1⟩ := gadd1_all (k := x.1.1) (n := x.1.2.1) (u := x.1.2.2.1) (ps := x.1.2.2.2) hG hp (rt1_right r1 h1.1) ⟨h1.1, h1.2, trivial⟩
  obtain ⟨⟨X2, q2, _⟩, g2, p2, l2⟩ := gadd1_all (k := x.2.1.1) (n := x.2.1.2.1) (u := x.2.1.2.2.1) (ps := x.2.1.2.2.2) g1 p1 (rt1_right r2 h2.1) ⟨h2.1, h2.2, trivial⟩
  refine ⟨g2, p2, fun a b hab => ?_⟩
  show a < (gadd1 (gadd1 s.1 x.1.1 x.1.2.1 x.1.2.2.2).1 x.2.1.1 x.2.1.2.1 x.2.1.2.2.2).1.length ∧ b < (gadd1 (gadd1 s.1 x.1.1 x.1.2.1 x.1.2.2.2).1 x.2.1.1 x.2.1.2.1 x.2.1.2.2.2).1.length
  have e1 : (gadd1 s.1 x.1.1 x.1.2.1 x.1.2.2.2).1.length ≤ (gadd1 (gadd1 s.1 x.1.1 x.1.2.1 x.1.2.2.2).1 x.2.1.1 x.2.1.2.1 x.2.1.2.2.2).1.length := by rw [q2, List.length_append]; omega
  have e0 : s.1.length ≤ (gadd1 s.1 x.1.1 x.1.2.1 x.1.2.2.2).1.length := by rw [q1, List.length_append]; omega
  rcases List.mem_append.1 hab with h | h
  · have := he a b h
    omega
  · obtain ⟨rfl, rfl⟩ : a = _ ∧ b = _ := by simpa using h
    omega
theorem fold_sysok (l : List Eqn) (hr : ∀ y ∈ l, rtE y = true) (hn : ∀ y ∈ l, TyN y.1 ∧ TyN y.2.1) : ∀ s, SysOk s → SysOk (l.foldl Go.Proofs.YtojgiienohpaiaaGreat.stp s) := by
  induction l with
  | nil => exact fun s h => h
  | cons x l ih => exact fun s h => ih (fun y hy => hr y (List.mem_cons_of_mem _ hy)) (fun y hy => hn y (List.mem_cons_of_mem _ hy)) _ (h.stp x (hr x List.mem_cons_self) (hn x List.mem_cons_self).1 (hn x List.mem_cons_self).2)
theorem cls_ok (l : List Eqn) (hr : ∀ y ∈ l, rtE y = true) (hn : ∀ y ∈ l, TyN y.1 ∧ TyN y.2.1) : SysOk (cls l) :=
  fold_sysok l hr hn ([], []) (by
    refine ⟨fun x hx => ?_, fun x hx => ?_, fun a b h => ?_⟩
    · simp at hx
    · simp at hx
    · simp at h)
theorem EqT.tyN {B : Nat} {w : World} {x : Eqn} (h : EqT B w x) : TyN x.1 ∧ TyN x.2.1 :=
  ⟨⟨TyV.len h.1, (TyV.list h.1).lenOk⟩, ⟨TyV.len h.2, (TyV.list h.2).lenOk⟩⟩
theorem Rc.start {s : Sys} (h : SysOk s) : Rc s.1 (fun k => k) s.2 := by
  refine ⟨fun i j _ _ e => ?_, fun x p hp a ha => (h.2.1 p (List.mem_of_getElem? hp)).2 a ha⟩
  have e : i = j := e
  subst e
  exact .refl _
theorem prC_at (T : List (Nat × Nat)) (i : Nat) (hi : i < T.length) : (prC T)[i * 2]? = some (.int .i64 (T[i].1 : Nat)) ∧ (prC T)[i * 2 + 1]? = some (.int .i64 (T[i].2 : Nat)) := by
  induction T generalizing i with
  | nil => simp at hi
  | cons x T ih =>
    cases i with
    | zero => simp [prC]
    | succ i =>
      have := ih i (by simpa using hi)
      have e : ∀ j, (prC (x :: T))[(i + 1) * 2 + j]? = (prC T)[i * 2 + j]? := fun j => by
        unfold prC
        rw [List.flatMap_cons, List.getElem?_append_right (by simp; omega)]
        congr 1
        simp; omega
      have e0 := e 0
      simp only [Nat.add_zero] at e0
      rw [e0, e 1]
      exact this
def J3 (wq : World) (G : List Gn) (E : List (Nat × Nat)) (m : Nat) (Q P : (Nat → Nat) → Prop) (s9 s11 : Value) (wx : World) : Prop :=
  ∃ (ch : Bool) (c : Nat → Nat), s11 = .bool ch ∧ wx.ownsRow wq.heap.size 3 1 s9 G.length (rowI G.length c) ∧ Rc G c E ∧ (∀ a b, (a, b) ∈ E → c a = c b) ∧ Q c ∧ (ch = true → Un.cnt G.length c < m) ∧ (ch = false → Un.cnt G.length c ≤ m ∧ P c) ∧ Below wq.heap.size wq wx
theorem J3.imp {wq : World} {G : List Gn} {E : List (Nat × Nat)} {m : Nat} {Q Q' P P' : (Nat → Nat) → Prop} {s9 s11 : Value} {wx : World} (h : J3 wq G E m Q P s9 s11 wx) (hQ : ∀ c, Q c → Q' c) (hP : ∀ c, Q c → P c → P' c) : J3 wq G E m Q' P' s9 s11 wx := by
  obtain ⟨ch, c, h1, h2, h3, h4, h5, h6, h7, h8⟩ := h
  exact ⟨ch, c, h1, h2, h3, h4, hQ c h5, h6, fun e => ⟨(h7 e).1, hP c h5 (h7 e).2⟩, h8⟩
end Go.Proofs.YtojgiienohpaiaaGreat
