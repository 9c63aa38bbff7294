/- Texts of one proof, one behind the other. -/
import Derived.Test.YtbnpmeaaaecciaaMgUnifyParts31
import Derived.Deep.RegionHeld3
/- UnifyClasses, walked. -/
namespace Go.Proofs.Ytbnpmeaaaecciaa
open Go.RowKit
open Un (Else dg cnt own_else rowI rowI_get wp_world)
set_option maxRecDepth 100000
attribute [local go_sem] Oper.semAt_some
attribute [local go_sem ↓] builtin_app
/-- A closure on its way: clashed or not. -/
def USt (B : Nat) (w : World) (c : Nat) (s : Sys) (q : Nat) (st : Int) (cl : Bool) : Prop := (cl = false ∧ OkC B w c s q st) ∨ (cl = true ∧ ∃ st', CxM w c st')
theorem USt.below {B c q : Nat} {w w' : World} {s : Sys} {st : Int} {cl : Bool} (h : USt B w c s q st cl) (hb : Below w.heap.size w w') : USt B w' c s q st cl := by
  rcases h with ⟨h1, h2⟩ | ⟨h1, st', h2⟩
  · exact .inl ⟨h1, h2.below hb⟩
  · exact .inr ⟨h1, st', h2.below hb⟩
/-- What stands ahead of each round. -/
def URel (l : List Eqn) (B c : Nat) (w : World) (i : Nat) (s6 s7 s8 : Value) : Prop :=
  ∃ (cl : Bool) (st : Int), s8 = .bool cl ∧ (cl = false → s6 = .int .i64 ((1 + esz (rights (l.take i)) : Nat) : Int) ∧ s7 = .int .i64 st) ∧ USt B w c (cls (rights (l.take i))) (rights (l.take i)).length st cl
/-- What Equate gives there. -/
def EqOut (B : Nat) (w' : World) (c : Nat) (s : Sys) (q : Nat) (st : Int) (x : Eqn) (cl rt : Bool) (r : Int) : Prop :=
  (cl = true ∧ r = 7 ∧ ∃ st', CxM w' c st') ∨ (cl = false ∧ rt = false ∧ r = 1 ∧ OkC B w' c s q st) ∨
  (cl = false ∧ rt = true ∧ ∃ st' : Int, st ≤ st' ∧ 0 ≤ st' ∧ st' ≤ 10000000 ∧ st' ≤ (1 + 4 * (dg (stp s x).1.length : Int)) * ((9 * (stp s x).1.length + (q + 1) : Nat) : Int) ∧
    ((r = 7 ∧ Clash (stp s x).1 (stp s x).2 ∧ CxM w' c st') ∨ (r = 0 ∧ ¬ Clash (stp s x).1 (stp s x).2 ∧ OkC B w' c (stp s x) (q + 1) st')))
section UzXs
variable {w w' : World} {B c q : Nat} {s : Sys} {st : Int}
theorem ueq (cl rt : Bool) (h : USt B w c s q st cl) (hB : B ≤ w.heap.size) (x : Eqn) (hx : EqT B w x) (hw : TyW x.1 ∧ TyW x.2.1) (hr : rtE x = rt) (hs : s.1.length + sz1 x ≤ 8000) (hq : q ≤ 100) :
    Calls Try.prog 12 #[.pointer (some ⟨c, 0, none⟩), t1V x.1, t1V x.2.1] w fun e w' => ∃ r : Int, e = .returned (.int .i64 r) ∧ Below B w w' ∧ EqOut B w' c s q st x cl rt r := by
  rcases h with ⟨rfl, h⟩ | ⟨rfl, st', h⟩
  · cases rt with
    | false =>
      refine (one_wrong (h.one (by omega) hq) x (hx.keep hB fun _ _ _ => rfl) hr (by omega)).mono ?_
      rintro e w' ⟨rfl, hb⟩
      exact ⟨1, rfl, hb.mono hB, .inr (.inl ⟨rfl, rfl, rfl, h.below hb⟩)⟩
    | true =>
      have hf := h.fits (by omega) hq
      refine (ok_eq h hB x hx hw hr hs hq).mono ?_
      rintro e w' ⟨r, st', rfl, hb, h1, h2, h3⟩
      have hle : (stp s x).1.length ≤ 8000 := by
        obtain ⟨X, hX, hXl⟩ := (stp_pre s x).1
        rw [hX, List.length_append]; omega
      have hd : dg (stp s x).1.length ≤ 21 := Un.dg_le (by omega)
      have := mul22 (d := dg (stp s x).1.length) (J := ((9 * (stp s x).1.length + q + 1 : Nat) : Int)) (by omega) (by omega) (by omega) (by omega)
      exact ⟨r, rfl, hb, .inr (.inr ⟨rfl, rfl, st', h1, by omega, by omega, h2, h3⟩)⟩
  · obtain ⟨⟨k, n, u, ps⟩, ⟨k', n', u', ps'⟩, z⟩ := x
    refine (equate_cx h k n k' n' u u').mono ?_
    rintro e w2 ⟨rfl, hb⟩
    exact ⟨7, rfl, hb.mono hB, .inl ⟨rfl, rfl, st', h.below hb⟩⟩
theorem err_ok (h : OkC B w c s q st) : Calls Try.prog 39 #[.pointer (some ⟨c, 0, none⟩)] w fun e w' => e = .returned (.int .i64 0) ∧ w' = w := by
  obtain ⟨O, fs, m, J, hC, _⟩ := h
  exact err_cs hC
end UzXs
theorem rights_two {l : List Eqn} (h : ∀ y ∈ l, rtE y = true) : 2 * l.length ≤ esz l := by
  induction l with
  | nil => simp [esz]
  | cons x l ih =>
    have := ih fun y hy => h y (List.mem_cons_of_mem _ hy)
    have e : esz (x :: l) = sz1 x + esz l := by simp [esz]
    rw [e, List.length_cons]
    unfold sz1
    omega
theorem kind_eq {G : List Gn} {E : List (Nat × Nat)} {cc : Nat → Nat} {a r r' : Int} {j : Nat} (hj : gvar G a = some j) (hn : ¬ Clash G E) (hrc : Rc G cc E) (hec : ∀ a b, (a, b) ∈ E → a < G.length ∧ b < G.length ∧ cc a = cc b) (hcl : ClosedC G cc) (h : KindIs G E a r) (h' : RKind G cc j r') : r = r' := by
  unfold KindIs at h
  rw [hj] at h
  have hjl := gvar_lt hj
  have is : ∀ k, k < G.length → (Cl G E j k ↔ cc k = cc j) := fun k hk => by
    rw [hrc.is hec hcl]
    constructor
    · rintro (rfl | ⟨_, _, e⟩)
      · rfl
      · exact e.symm
    · exact fun e => .inr ⟨hjl, hk, e.symm⟩
  rcases h with ⟨y, q, hy, hq, q1, rfl⟩ | ⟨rfl, hz⟩
  · rcases h' with ⟨k, p, hp, hc, p1, rfl⟩ | ⟨rfl, hz'⟩
    · by_cases hf : q.1 = p.1
      · exact hf
      · exact absurd ⟨y, k, q, p, hy.symm.trans ((is k (lt_of_get hp)).2 hc), hq, hp, q1, p1, fun f => hf f.1⟩ hn
    · exact absurd (hz' y q hq ((is y (lt_of_get hq)).1 hy)) q1
  · rcases h' with ⟨k, p, hp, hc, p1, rfl⟩ | ⟨rfl, hz'⟩
    · exact absurd (hz k p ((is k (lt_of_get hp)).2 hc) hp) p1
    · rfl
theorem class_of {G : List Gn} {E : List (Nat × Nat)} {cc : Nat → Nat} {a : Int} {j : Nat} (hj : gvar G a = some j) (hg : GN G) (hrc : Rc G cc E) (hec : ∀ a b, (a, b) ∈ E → a < G.length ∧ b < G.length ∧ cc a = cc b) (hcl : ClosedC G cc) : ClassIs G E a ((vsort G).filter (selC G cc j)) := by
  obtain ⟨hv1, hv2⟩ := vfold G [] List.Pairwise.nil
  have hv1 : (vsort G).Pairwise (· ≤ ·) := hv1
  have hv2 : (vsort G).Perm (names G) := by simpa [vsort] using hv2
  have hjl := gvar_lt hj
  refine ⟨(hv2.nodup_iff.2 hg.1).sublist (List.filter_sublist), hv1.sublist (List.filter_sublist), fun b => ?_⟩
  rw [List.mem_filter]
  constructor
  · rintro ⟨hb, hs⟩
    obtain ⟨k, hk, hkv, hkl⟩ := ivar_of hb
    unfold selC at hs
    rw [hkv] at hs
    have hs : cc k = cc j := by simpa using hs
    exact ⟨j, k, hj, hk, (hrc.is hec hcl).2 (.inr ⟨hjl, hkl, hs.symm⟩)⟩
  · rintro ⟨j', k, hj', hk, hc⟩
    rw [hj] at hj'
    cases hj'
    have hb : b ∈ vsort G := hv2.mem_iff.2 ((gvar_names G b).1 (by rw [hk]; rfl))
    refine ⟨hb, ?_⟩
    unfold selC
    rw [show ivar G b = (k : Nat) by rw [ivar, hk]]
    rcases (hrc.is hec hcl).1 hc with rfl | ⟨_, _, e⟩
    · simp
    · simp [e]
theorem same_eq {G : List Gn} {E : List (Nat × Nat)} {cc : Nat → Nat} {a b : Int} {j k : Nat} (hj : gvar G a = some j) (hk : gvar G b = some k) (hrc : Rc G cc E) (hec : ∀ a b, (a, b) ∈ E → a < G.length ∧ b < G.length ∧ cc a = cc b) (hcl : ClosedC G cc) {t : Bool} (h : t = true ↔ SameIs G E a b) : t = (cc j == cc k) := by
  have hjl := gvar_lt hj
  have hkl := gvar_lt hk
  rw [Bool.eq_iff_iff, h, beq_iff_eq]
  constructor
  · rintro ⟨j', k', hj', hk', hc⟩
    rw [hj] at hj'
    rw [hk] at hk'
    cases hj'
    cases hk'
    rcases (hrc.is hec hcl).1 hc with rfl | ⟨_, _, e⟩
    · rfl
    · exact e
  · exact fun e => ⟨j, k, hj, hk, (hrc.is hec hcl).2 (.inr ⟨hjl, hkl, e⟩)⟩
theorem rights_all (l : List Eqn) : ∀ y ∈ rights l, rtE y = true := fun _ hy => (List.mem_filter.1 hy).2
end Go.Proofs.Ytbnpmeaaaecciaa
