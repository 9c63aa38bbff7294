/- Texts of one proof, one behind the other. -/
import Derived.Test.YtbnpmeaaaecciaaMgUnifyParts28
import Derived.Test.YtbnpmeaaaecciaaShSo
import Derived.Sort.Row
import Derived.Sort.Grow
import Derived.Test.YtbnpmeaaaecciaaMgUnifyParts26
import Derived.Test.YtbnpmeaaaecciaaMgUnifyParts16
import Derived.Test.YtbnpmeaaaecciaaMgUnifyParts27
/- unify: the variables of a variable's class. -/
namespace Go.Proofs.Ytbnpmeaaaecciaa
open Go.RowKit Go.Sort
open Un (Else dg cnt own_else Rings Ring Pth)
set_option maxRecDepth 100000
theorem sort_ints (w : World) (B g cap : Nat) (z : List Int) (hown : w.ownsRow B 3 1 (.slice (some ⟨g, 0, none⟩) z.length cap) z.length (ints z)) (hl : z.length ≤ 1048576) :
    Calls Try.prog 104 #[.slice (some ⟨g, 0, none⟩) z.length cap] w fun e w' => e = .returned (.tuple #[]) ∧ ∃ z' : List Int, z'.Perm z ∧ z'.Pairwise (· ≤ ·) ∧ Rd w' 1 (.slice (some ⟨g, 0, none⟩) z.length cap) z.length (ints z') ∧ Else (fun k => k = g) w w' := by
  obtain ⟨hgl, hcap, hcm⟩ : g < w.heap.size ∧ z.length ≤ cap ∧ cap ≤ maxLen := by
    rcases hown.2 with ⟨h, _⟩ | ⟨g', cap', cur, hv, _, hh, h1, h2, _⟩
    · cases h
    · injection hv with hv _ hc
      injection hv with hv
      injection hv with hv
      subst hv; subst hc
      exact ⟨(Array.getElem?_eq_some_iff.1 hh).1, h1, h2⟩
  have hcell : ∀ j, (hj : j < z.length) → w.cell? ⟨g, j, none⟩ = some (.int .i64 z[j]) := by
    intro j hj
    rw [hown.cellAt j (by omega)]
    simp [ints, hj]
  have hH : Holds (Value.int .i64) w g 0 z.toArray := by
    intro j hj
    have hj' : j < z.length := by simpa using hj
    refine ⟨?_, ?_⟩
    · rw [Nat.zero_add, hcell j hj']
      congr 2
      rw [getElem!_pos z.toArray j hj]
      simp
    · rw [Nat.zero_add]; exact hown.frozenAt j
  have hc := Try.slices_Sort_int g 0 cap z w hH hgl (by omega)
  refine hc.mono ?_
  rintro e w' ⟨rfl, n, os, rfl⟩
  have hperm : (z.mergeSort fun x y => decide (x ≤ y)).Perm z := List.mergeSort_perm _ _
  have hpw : (z.mergeSort fun x y => decide (x ≤ y)).Pairwise (fun a b => decide (a ≤ b) = true) := List.pairwise_mergeSort (fun a b c h1 h2 => by simp at h1 h2 ⊢; omega) (fun a b => by simp; omega) _
  generalize (z.mergeSort fun x y => decide (x ≤ y)) = z' at *
  have hz'l : z'.length = z.length := hperm.length_eq
  refine ⟨rfl, z', hperm, hpw.imp fun h => by simpa using h, ?_, ?_⟩
  · refine ⟨by rw [ints_len, hz'l]; omega, .inr ⟨g, 0, cap, rfl, hcap, hcm, by simp [grow]; omega, fun j u hu => ?_⟩⟩
    have hj : j < z'.length := by have := (List.getElem?_eq_some_iff.1 hu).1; rwa [ints_len] at this
    have hcp := cell?_putRow (Value.int .i64) (Sort.ahead w n) g 0 z.toArray z'.toArray (holds_ahead _ _ _ _ _ _ hH) (by simp; omega) j (by simpa using hj)
    rw [Nat.zero_add] at hcp ⊢
    have hgrow : (grow (putRow (Value.int .i64) (Sort.ahead w n) g 0 z'.toArray) os).cell? ⟨g, j, none⟩ = (putRow (Value.int .i64) (Sort.ahead w n) g 0 z'.toArray).cell? ⟨g, j, none⟩ := World.cell?_of_block (heap_grow_old _ _ (by simp; omega))
    rw [hgrow, hcp, ← hu]
    rw [getElem!_pos z'.toArray j (by simpa using hj)]
    simp [ints, hj]
  · refine ⟨rfl, rfl, rfl, by simp [grow], fun k hk hne => ?_⟩
    rw [heap_grow_old _ _ (by simp; omega)]
    show ((Sort.ahead w n).heap.modify g _)[k]? = _
    rw [Array.getElem?_modify, if_neg (by simpa using Ne.symm hne)]
    rfl
/-- An int put behind a row. -/
theorem app_io (B : Nat) (w : World) (hB : B ≤ w.heap.size) (v : Value) (z : List Int) (hown : w.ownsRow B 3 1 v z.length (ints z)) (x : Int) (hn : z.length ≤ 10000000) :
    ∃ g cp w1, (app_ #[43, 43] 43 #[v, .slice (some ⟨w.heap.size, 0, none⟩) 1 1]).run Try.prog (w.alloc (.cells #[.int .i64 x] 3)) = .ok (.slice (some ⟨g, 0, none⟩) (z.length + 1) cp) w1 ∧
      w1.ownsRow B 3 1 (.slice (some ⟨g, 0, none⟩) (z.length + 1) cp) (z ++ [x]).length (ints (z ++ [x])) ∧ Below B w w1 := by
  obtain ⟨i0, hi0, hz0, hz1, hz2⟩ := Un.info_parts Un.intInfo
  have own1 := hown.alloc (.cells #[.int .i64 x] 3)
  have rd1 : Rd (w.alloc (.cells #[.int .i64 x] 3)) 1 (.slice (some ⟨w.heap.size, 0, none⟩) 1 1) 1 [.int .i64 x] := rd_new w [.int .i64 x] 3 1 1 rfl (by unfold maxLen; omega)
  obtain ⟨v', w1, hrun, hown1, hg1, _⟩ := run_append_rd (P := Try.prog) _ B 43 43 3 i0 _ 1 8 Try.underlying43 hi0 hz0 hz1 hz2 rfl (by omega) v _ _ own1 _ 1 _ rd1 (by simp [Value.oneCell']) (by unfold maxLen; omega) (by omega) (by rw [World.size_alloc]; omega)
  obtain ⟨g, cp, rfl, _, _⟩ := Un.own_shape hown1 (by omega)
  refine ⟨g, cp, w1, hrun, ?_, ((Below.refl B w).alloc hB _).grown hg1 (by rw [World.size_alloc]; omega) fun k hk => (hown.lt k hk).1⟩
  rw [List.length_append]
  have e : ints (z ++ [x]) = ints z ++ [.int .i64 x] := by simp [ints]
  rw [e]
  exact hown1
attribute [local go_sem] Oper.semAt_some
attribute [local go_sem ↓] builtin_app
/-- Numbers of nodes, by name. -/
def nmL (G : List Gn) (L : List Nat) : List Int := L.map (nmG G)
theorem names_at {G : List Gn} {a : Int} (h : a ∈ names G) : ∃ i p, G[i]? = some p ∧ p.1 = 1 ∧ p.2.1 = a ∧ gvar G a = some i := by
  have h2 := (gvar_names G a).2 h
  obtain ⟨i, hi⟩ := Option.isSome_iff_exists.1 h2
  obtain ⟨p, hp, p1, p2⟩ := gvar_at hi
  exact ⟨i, p, hp, p1, p2, hi⟩
/-- A variable's only node. -/
theorem gvar_node {G : List Gn} (hg : GN G) {i : Nat} {p : Gn} (hp : G[i]? = some p) (p1 : p.1 = 1) : gvar G p.2.1 = some i := by
  induction G generalizing i with
  | nil => simp at hp
  | cons x G ih =>
    have hn : names (x :: G) = (if x.1 = 1 then [x.2.1] else []) ++ names G := by
      unfold names
      by_cases h : x.1 = 1 <;> simp [h]
    have hg' : GN G := by
      refine ⟨?_, fun n hn' => hg.2 n (by rw [hn]; exact List.mem_append_right _ hn')⟩
      have := hg.1
      rw [hn] at this
      exact (List.nodup_append.1 this).2.1
    cases i with
    | zero =>
      simp only [List.getElem?_cons_zero, Option.some.injEq] at hp
      subst hp
      simp [gvar, p1]
    | succ i =>
      simp only [List.getElem?_cons_succ] at hp
      have hm := ih hg' hp
      simp only [gvar]
      split
      · rename_i hx
        exfalso
        have hmem : p.2.1 ∈ names G := (gvar_names G _).1 (by rw [hm]; rfl)
        have := hg.1
        rw [hn, if_pos hx.1] at this
        exact (List.nodup_append.1 this).2.2 x.2.1 (by simp) p.2.1 hmem hx.2
      · rw [hm]
        rfl
section UzJs
variable {O : Nat → Prop} {w : World} {cb m : Nat} {G : List Gn} {E : List (Nat × Nat)} {st fs : Int}
/-- What the variables of a variable's class are. -/
def ClassIs (G : List Gn) (E : List (Nat × Nat)) (v : Int) (ys : List Int) : Prop := ys.Nodup ∧ ys.Pairwise (· ≤ ·) ∧ ∀ a, a ∈ ys ↔ SameIs G E v a
theorem ClassIs.uniq {G H : List Gn} {E F : List (Nat × Nat)} {v : Int} {ys zs : List Int} (h : ClassIs G E v ys) (k : ClassIs H F v zs) (he : ∀ a, SameIs G E v a ↔ SameIs H F v a) : ys = zs := by
  have hp : ys.Perm zs := (List.perm_ext_iff_of_nodup h.1 k.1).2 fun a => by rw [h.2.2, k.2.2, he]
  exact List.Perm.eq_of_pairwise (le := fun a b => a ≤ b) (fun a b _ _ h1 h2 => Int.le_antisymm h1 h2) h.2.1 k.2.1 hp
theorem nodup_map_on {f : Nat → Int} {L : List Nat} (hf : ∀ x, x ∈ L → ∀ y, y ∈ L → f x = f y → x = y) (hn : L.Nodup) : (L.map f).Nodup := by
  induction L with
  | nil => exact List.nodup_nil
  | cons a L ih =>
    rw [List.nodup_cons] at hn
    rw [List.map_cons, List.nodup_cons]
    refine ⟨fun h => ?_, ih (fun x hx y hy => hf x (List.mem_cons_of_mem _ hx) y (List.mem_cons_of_mem _ hy)) hn.2⟩
    obtain ⟨b, hb, e⟩ := List.mem_map.1 h
    have := hf b (List.mem_cons_of_mem _ hb) a List.mem_cons_self e
    subst this
    exact hn.1 hb
end UzJs
end Go.Proofs.Ytbnpmeaaaecciaa
/- unify: the answer's Kind and Class, walked; what they say. -/
namespace Go.Proofs.Ytbnpmeaaaecciaa
open Go.RowKit
attribute [local go_sem] Oper.semAt_some
attribute [local go_sem ↓] builtin_app
open Un (rowI rowI_get own_shape paint)
set_option maxRecDepth 100000
/-- The kind of what a node's color has, by colors. -/
def RKind (G : List Gn) (c : Nat → Nat) (i : Nat) (r : Int) : Prop :=
  (∃ (k : Nat) (p : Gn), G[k]? = some p ∧ c k = c i ∧ p.1 ≠ 1 ∧ r = p.1) ∨ (r = 0 ∧ ∀ (k : Nat) (p : Gn), G[k]? = some p → c k = c i → p.1 = 1)
set_option maxHeartbeats 4000000 in
theorem rkind_any (w : World) (M : List Rm) (vm vs : Value) (c : Nat → Nat) (B : Nat) (hM : Rd w 4 vm M.length (M.flatMap rmC)) (hs : w.ownsRow B 3 1 vs M.length (rowI M.length c)) (hl : M.length ≤ 1000000) (i : Nat) (hi : i < M.length) :
    Calls Try.prog 49 #[.agg #[vm, vs], .int .i64 (i : Nat)] w fun e w' => ∃ r : Int, e = .returned (.int .i64 r) ∧ RKind (gM M) c i r ∧ Below w.heap.size w w' := by
  obtain ⟨A, c0, rfl⟩ := hM.form
  obtain ⟨q, hq⟩ : ∃ q, M.length = q := ⟨_, rfl⟩
  rw [hq] at hl hi hs ⊢
  obtain ⟨g, cv, rfl, _, hgl⟩ := own_shape hs (by omega)
  obtain ⟨W0, hW0⟩ : ∃ W0, w.alloc (.cells #[.slice A q c0, .slice (some ⟨g, 0, none⟩) q cv] 46) = W0 := ⟨_, rfl⟩
  have hb0 : Below w.heap.size w W0 := by rw [← hW0]; exact (Below.refl _ _).alloc (Nat.le_refl _) _
  have hx0 : W0.heap[w.heap.size]? = some (Obj.cells #[.slice A q c0, .slice (some ⟨g, 0, none⟩) q cv] 46) := by rw [← hW0]; exact heap_alloc_new w _
  have hl0 : w.heap.size < W0.heap.size := (Array.getElem?_eq_some_iff.1 hx0).1
  have x0 : W0.cell? ⟨w.heap.size, 0, none⟩ = some (.slice A q c0) := cell_of_row W0 _ 0 _ _ (0, 0) hx0
  have x1 : W0.cell? ⟨w.heap.size, 1, none⟩ = some (.slice (some ⟨g, 0, none⟩) q cv) := cell_of_row W0 _ 1 _ _ (0, 0) hx0
  have HWH := whole_any W0 M (.slice A q c0) (.slice (some ⟨g, 0, none⟩) q cv) c B (by have := hM.below hb0; rwa [hq] at this ⊢) (by rw [hq]; exact own_below hs hb0) (by rw [hq]; exact hl) i (by rw [hq]; exact hi)
  have HM := Lib.hid (And.intro hq hM)
  have HS := Lib.hid hs
  have HB0 := Lib.hid hb0
  have HW := Lib.hid HWH
  clear hM hs hx0 hb0 hq HWH
  go_enter Try.func49, Try.ntmps49
  go_wp2_with fail
  refine HW.out.mono ?_
  rintro e w1 ⟨r, rfl, hr, hb1⟩
  have y0 : w1.cell? ⟨w.heap.size, 0, none⟩ = some (.slice A q c0) := (hb1.cell (p := ⟨w.heap.size, 0, none⟩) hl0).trans x0
  have HB1 := Lib.hid (HB0.out.trans (hb1.mono (Nat.le_of_lt hl0)))
  clear HW hb1 hW0 x0 x1
  rcases hr with ⟨k, p, rfl, hp, hc, p1⟩ | ⟨rfl, hn⟩
  · have hkq : k < q := by have := (List.getElem?_eq_some_iff.1 hp).1; simp [gM] at this; have := HM.out.1; omega
    have hkM : k < M.length := by rw [HM.out.1]; exact hkq
    obtain ⟨b1, o1, cap1, hv1, _, _, hlt1, hc1⟩ := HM.out.2.2.resolve_left (by rintro ⟨h, _⟩; omega)
    injection hv1 with hA1 _ hcc1
    subst hA1; subst hcc1
    obtain ⟨p0, -, -, -⟩ := rmC_at M k hkM
    have hgk : (gM M)[k]? = some (rG M[k].1) := by simp [gM, hkM]
    rw [hp] at hgk
    obtain ⟨x, hx⟩ : ∃ x, p.1 = x := ⟨_, rfl⟩
    have hxx : M[k].1.1 = x := by rw [← hx, Option.some.inj hgk]; rfl
    rw [hxx] at p0
    have z0 : w1.cell? ⟨b1, o1 + k * 4, none⟩ = some (.int .i64 x) := (HB1.out.cell (p := ⟨b1, o1 + k * 4, none⟩) hlt1).trans (hc1 _ _ p0)
    have HP := Lib.hid (And.intro hp (And.intro hc (And.intro p1 hx)))
    clear hp hc p1 hx hgk hxx p0 hc1 hkM
    have t1 : decide (0 ≤ (k : Int)) = true := decide_eq_true (by omega)
    go_wp2_with fail
    go_ret
    exact ⟨x, rfl, .inl ⟨k, p, HP.out.1, HP.out.2.1, HP.out.2.2.1, HP.out.2.2.2.symm⟩, HB1.out⟩
  · have HN := Lib.hid hn
    clear hn
    go_wp2_with fail
    go_ret
    exact ⟨0, rfl, .inr ⟨rfl, HN.out⟩, HB1.out⟩
/-- The variables of a color. -/
def selC (G : List Gn) (c : Nat → Nat) (i : Nat) (a : Int) : Bool := c (ivar G a).toNat == c i
theorem ivar_of {G : List Gn} {a : Int} (h : a ∈ vsort G) : ∃ j, gvar G a = some j ∧ ivar G a = (j : Nat) ∧ j < G.length := by
  have hp := (vfold G [] List.Pairwise.nil).2
  have hm : a ∈ names G := by have := hp.mem_iff.1 h; simpa using this
  obtain ⟨j, hj⟩ := Option.isSome_iff_exists.1 ((gvar_names G a).2 hm)
  exact ⟨j, hj, by rw [ivar, hj], gvar_lt hj⟩
set_option maxHeartbeats 4000000 in
theorem rclass_any (w : World) (M : List Rm) (vm vs : Value) (c : Nat → Nat) (B : Nat) (hM : Rd w 4 vm M.length (M.flatMap rmC)) (hs : w.ownsRow B 3 1 vs M.length (rowI M.length c)) (hl : M.length ≤ 100000) (i : Nat) (hi : i < M.length) :
    Calls Try.prog 48 #[.agg #[vm, vs], .int .i64 (i : Nat)] w fun e w' => ∃ v', e = .returned v' ∧ Rd w' 1 v' ((vsort (gM M)).filter (selC (gM M) c i)).length (ints ((vsort (gM M)).filter (selC (gM M) c i))) ∧ Below w.heap.size w w' := by
  obtain ⟨A, c0, rfl⟩ := hM.form
  have hgM : (gM M).length = M.length := by simp [gM]
  obtain ⟨q, hq⟩ : ∃ q, M.length = q := ⟨_, rfl⟩
  rw [hq] at hl hi hs hgM ⊢
  obtain ⟨g, cv, rfl, _, hgl⟩ := own_shape hs (by omega)
  obtain ⟨W0, hW0⟩ : ∃ W0, w.alloc (.cells #[.slice A q c0, .slice (some ⟨g, 0, none⟩) q cv] 46) = W0 := ⟨_, rfl⟩
  have hb0 : Below w.heap.size w W0 := by rw [← hW0]; exact (Below.refl _ _).alloc (Nat.le_refl _) _
  have hx0 : W0.heap[w.heap.size]? = some (Obj.cells #[.slice A q c0, .slice (some ⟨g, 0, none⟩) q cv] 46) := by rw [← hW0]; exact heap_alloc_new w _
  have hl0 : w.heap.size < W0.heap.size := (Array.getElem?_eq_some_iff.1 hx0).1
  have x0 : W0.cell? ⟨w.heap.size, 0, none⟩ = some (.slice A q c0) := cell_of_row W0 _ 0 _ _ (0, 0) hx0
  have HVS := rvars11 W0 (.slice A q c0) M (by have := hM.below hb0; rwa [hq] at this ⊢) (by rw [hq]; exact hl)
  have HM := Lib.hid (And.intro hq hM)
  have HS := Lib.hid hs
  have HX := Lib.hid (And.intro hb0 hx0)
  have hvl := vsort_len (gM M)
  have hvm : ∀ a, a ∈ vsort (gM M) → ∃ j, gvar (gM M) a = some j ∧ ivar (gM M) a = (j : Nat) ∧ j < (gM M).length := fun a h => ivar_of h
  obtain ⟨V, hV⟩ : ∃ V, vsort (gM M) = V := ⟨_, rfl⟩
  rw [hV] at HVS hvl hvm ⊢
  have hVl : V.length ≤ q := by rw [← hgM]; exact hvl
  have HVM := Lib.hid hvm
  have HV := Lib.hid HVS
  have HG := Lib.hid hgM
  clear hvm hV hvl
  clear hM hs hx0 hb0 hq HVS hgM
  go_enter Try.func48, Try.ntmps48
  go_wp2_with fail
  refine HV.out.mono ?_
  rintro e w1 ⟨v1, rfl, hv1, hb1⟩
  obtain ⟨Av, cvv, rfl⟩ := hv1.form
  have HB1 := Lib.hid (HX.out.1.trans (hb1.mono (Nat.le_of_lt hl0)))
  have HR := Lib.hid (And.intro hv1 hb1)
  clear HV hb1 hv1 x0 hW0
  go_wp2_with fail
  go_loopw [5, 7] (fun s t wr => ∃ k : Nat, t = .int .i64 (k : Nat) ∧ k ≤ V.length ∧ wr.ownsRow w1.heap.size 3 1 s ((V.take k).filter (selC (gM M) c i)).length (ints ((V.take k).filter (selC (gM M) c i))) ∧ Below w1.heap.size w1 wr) (fun _ t _ => V.length - (intOf t).toNat)
  case atStart => exact ⟨0, rfl, Nat.zero_le _, World.ownsRow_nil _ _ _ _, Below.refl _ _⟩
  case round =>
    obtain ⟨k, rfl, hk, ho, hb⟩ := hrel
    obtain ⟨As, cs, rfl⟩ := Un.row_form ho
    have hbw : Below w.heap.size w wr := HB1.out.trans (hb.mono HB1.out.size)
    have HO := Lib.hid (And.intro ho (And.intro hb hbw))
    clear ho hb hbw
    by_cases hkl : k < V.length
    · have f1 : decide ((k : Int) < (V.length : Int)) = true := decide_eq_true (by omega)
      obtain ⟨a, ha⟩ : ∃ a, V[k]? = some a := ⟨_, List.getElem?_eq_getElem hkl⟩
      obtain ⟨bv, ov, rfl, hbv, z0⟩ := HR.out.1.int_at k a ha
      obtain ⟨j, hj, hjv, hjl⟩ := HVM.out a (List.mem_of_getElem? ha)
      rw [HG.out] at hjl
      have hcol : selC (gM M) c i a = (c j == c i) := by unfold selC; rw [hjv]; simp
      obtain ⟨bb, hbb⟩ : ∃ bb, (c j == c i) = bb := ⟨_, rfl⟩
      have e1 : ((c j : Int) == (c i : Int)) = bb := by
        rw [← hbb, Bool.eq_iff_iff, beq_iff_eq, beq_iff_eq]; omega
      have hst : (V.take (k + 1)).filter (selC (gM M) c i) = (V.take k).filter (selC (gM M) c i) ++ if bb = true then [a] else [] := by
        rw [List.take_add_one, ha, List.filter_append]
        congr 1
        rw [← hbb, ← hcol]
        simp [List.filter_cons]
      have hml : ((V.take k).filter (selC (gM M) c i)).length ≤ k := Nat.le_trans (List.length_filter_le _ _) (by simp; omega)
      have hWB : ∀ W, Below wr.heap.size wr W → Below w.heap.size w W := fun W hW => HO.out.2.2.trans (hW.mono HO.out.2.2.size)
      have HVR : Hid (∀ W, Below wr.heap.size wr W → Calls Try.prog 16 #[.slice A q c0, .int .i64 a] W fun e w' => e = .returned (.int .i64 (j : Nat)) ∧ Below W.heap.size W w') := Lib.hid fun W hW => by
        have hr := rvar_graph W (.slice A q c0) M (by have := HM.out.2.below (hWB W hW); rwa [HM.out.1] at this ⊢) (by rw [HM.out.1]; omega) a
        rwa [hjv] at hr
      have EX : Hid (∀ W, Below wr.heap.size wr W → W.cell? ⟨w.heap.size, 0, none⟩ = some (.slice A q c0) ∧ W.cell? ⟨w.heap.size, 1, none⟩ = some (.slice (some ⟨g, 0, none⟩) q cv) ∧ W.cell? ⟨bv, ov + k, none⟩ = some (.int .i64 a) ∧ W.cell? ⟨g, j, none⟩ = some (.int .i64 (c j : Nat)) ∧ W.cell? ⟨g, i, none⟩ = some (.int .i64 (c i : Nat))) := Lib.hid fun W hW => by
        have hw1 : Below w1.heap.size w1 W := HO.out.2.1.trans (hW.mono HO.out.2.1.size)
        have hw0 : Below W0.heap.size W0 W := HR.out.2.trans (hw1.mono HR.out.2.size)
        have hx := (hw0.block w.heap.size hl0).trans HX.out.2
        have hS := own_below HS.out (hWB W hW)
        exact ⟨cell_of_row W _ 0 _ _ (0, 0) hx, cell_of_row W _ 1 _ _ (0, 0) hx, (hw1.cell (p := ⟨bv, ov + k, none⟩) hbv).trans z0, (hS.cellAt j (by omega)).trans (rowI_get hjl), (hS.cellAt i (by omega)).trans (rowI_get hi)⟩
      have HST := Lib.hid (And.intro hst hml)
      clear ha z0 hj hjv hcol hbb hst hml hWB
      go_wp2_with fail
      have hS : Below wr.heap.size wr wr.drew := (Below.refl _ _).drew
      refine wp_region_held (S := (fun W => Below wr.heap.size wr W)) (by kernel_rfl) ?_
      change wpAnyH _ _ _ _ _ 17 (List.replicate 17 false).toArray _ wr.drew
      simp only [List.replicate_succ, List.replicate_zero]
      refine any_take (i := 0) (some 17) (.pointer (some ⟨w.heap.size, 1, none⟩)) rfl (by rfl) (by kernel_rfl) (by kernel_rfl) (by kernel_rfl) (fun _ _ _ h => h) (Or.inl ⟨by kernel_rfl, (fun W hw => by clear hw; go_simp)⟩) hS ?_
      simp only [Act.put, List.setIfInBounds_toArray, List.set_cons_zero, List.set_cons_succ]
      refine any_take (i := 1) (some 18) (.slice (some ⟨g, 0, none⟩) q cv) rfl (by rfl) (by kernel_rfl) (by kernel_rfl) (by kernel_rfl) (fun _ _ _ h => h) (Or.inl ⟨by kernel_rfl, (fun W hw => by obtain ⟨e1, e2, e3, e4, e5⟩ := EX.out W hw; clear hw; go_simp)⟩) hS ?_
      simp only [Act.put, List.setIfInBounds_toArray, List.set_cons_zero, List.set_cons_succ]
      refine any_take (i := 2) (some 19) (.pointer (some ⟨w.heap.size, 0, none⟩)) rfl (by rfl) (by kernel_rfl) (by kernel_rfl) (by kernel_rfl) (fun _ _ _ h => h) (Or.inl ⟨by kernel_rfl, (fun W hw => by clear hw; go_simp)⟩) hS ?_
      simp only [Act.put, List.setIfInBounds_toArray, List.set_cons_zero, List.set_cons_succ]
      refine any_take (i := 3) (some 20) (.slice A q c0) rfl (by rfl) (by kernel_rfl) (by kernel_rfl) (by kernel_rfl) (fun _ _ _ h => h) (Or.inl ⟨by kernel_rfl, (fun W hw => by obtain ⟨e1, e2, e3, e4, e5⟩ := EX.out W hw; clear hw; go_simp)⟩) hS ?_
      simp only [Act.put, List.setIfInBounds_toArray, List.set_cons_zero, List.set_cons_succ]
      refine any_take (i := 4) (some 21) (.slice (some ⟨bv, ov, none⟩) V.length cvv) rfl (by rfl) (by kernel_rfl) (by kernel_rfl) (by kernel_rfl) (fun _ _ _ h => h) (Or.inl ⟨by kernel_rfl, (fun W hw => by clear hw; go_simp)⟩) hS ?_
      simp only [Act.put, List.setIfInBounds_toArray, List.set_cons_zero, List.set_cons_succ]
      refine any_take (i := 5) (some 22) (.int .i64 (k : Nat)) rfl (by rfl) (by kernel_rfl) (by kernel_rfl) (by kernel_rfl) (fun _ _ _ h => h) (Or.inl ⟨by kernel_rfl, (fun W hw => by clear hw; go_simp)⟩) hS ?_
      simp only [Act.put, List.setIfInBounds_toArray, List.set_cons_zero, List.set_cons_succ]
      refine any_take (i := 6) (some 23) (.pointer (some ⟨bv, ov + k, none⟩)) rfl (by rfl) (by kernel_rfl) (by kernel_rfl) (by kernel_rfl) (fun _ _ _ h => h) (Or.inl ⟨by kernel_rfl, (fun W hw => by clear hw; go_simp)⟩) hS ?_
      simp only [Act.put, List.setIfInBounds_toArray, List.set_cons_zero, List.set_cons_succ]
      refine any_take (i := 7) (some 24) (.int .i64 a) rfl (by rfl) (by kernel_rfl) (by kernel_rfl) (by kernel_rfl) (fun _ _ _ h => h) (Or.inl ⟨by kernel_rfl, (fun W hw => by obtain ⟨e1, e2, e3, e4, e5⟩ := EX.out W hw; clear hw; go_simp)⟩) hS ?_
      simp only [Act.put, List.setIfInBounds_toArray, List.set_cons_zero, List.set_cons_succ]
      refine any_take (i := 11) (some 28) (.pointer (some ⟨w.heap.size, 1, none⟩)) rfl (by rfl) (by kernel_rfl) (by kernel_rfl) (by kernel_rfl) (fun _ _ _ h => h) (Or.inl ⟨by kernel_rfl, (fun W hw => by clear hw; go_simp)⟩) hS ?_
      simp only [Act.put, List.setIfInBounds_toArray, List.set_cons_zero, List.set_cons_succ]
      refine any_take (i := 12) (some 29) (.slice (some ⟨g, 0, none⟩) q cv) rfl (by rfl) (by kernel_rfl) (by kernel_rfl) (by kernel_rfl) (fun _ _ _ h => h) (Or.inl ⟨by kernel_rfl, (fun W hw => by obtain ⟨e1, e2, e3, e4, e5⟩ := EX.out W hw; clear hw; go_simp)⟩) hS ?_
      simp only [Act.put, List.setIfInBounds_toArray, List.set_cons_zero, List.set_cons_succ]
      refine any_take (i := 13) (some 30) (.int .i64 (i : Nat)) rfl (by rfl) (by kernel_rfl) (by kernel_rfl) (by kernel_rfl) (fun _ _ _ h => h) (Or.inl ⟨by kernel_rfl, (fun W hw => by clear hw; go_simp)⟩) hS ?_
      simp only [Act.put, List.setIfInBounds_toArray, List.set_cons_zero, List.set_cons_succ]
      refine any_take (i := 14) (some 31) (.pointer (some ⟨g, i, none⟩)) rfl (by rfl) (by kernel_rfl) (by kernel_rfl) (by kernel_rfl) (fun _ _ _ h => h) (Or.inl ⟨by kernel_rfl, (fun W hw => by clear hw; go_simp)⟩) hS ?_
      simp only [Act.put, List.setIfInBounds_toArray, List.set_cons_zero, List.set_cons_succ]
      refine any_take (i := 15) (some 32) (.int .i64 (c i : Nat)) rfl (by rfl) (by kernel_rfl) (by kernel_rfl) (by kernel_rfl) (fun _ _ _ h => h) (Or.inl ⟨by kernel_rfl, (fun W hw => by obtain ⟨e1, e2, e3, e4, e5⟩ := EX.out W hw; clear hw; go_simp)⟩) hS ?_
      simp only [Act.put, List.setIfInBounds_toArray, List.set_cons_zero, List.set_cons_succ]
      refine wpAnyH_all (rs := [8]) (by kernel_rfl) (by simp) fun q' hq' => ?_
      obtain rfl : q' = 8 := by simpa using hq'
      refine ops_call (d := some 25) rfl (by rfl) (by kernel_rfl) (by go_simp) ((HVR.out _ hS).mono ?_)
      rintro e w5 ⟨rfl, hb5⟩
      have hS5 : Below wr.heap.size wr w5 := hS.trans (hb5.mono hS.size)
      refine ⟨_, rfl, hS5, ?_⟩
      simp only [Act.put, List.setIfInBounds_toArray, List.set_cons_zero, List.set_cons_succ]
      refine any_take (i := 9) (some 26) (.pointer (some ⟨g, j, none⟩)) rfl (by rfl) (by kernel_rfl) (by kernel_rfl) (by kernel_rfl) (fun _ _ _ h => h) (Or.inl ⟨by kernel_rfl, (fun W hw => by clear hw; go_simp)⟩) hS5 ?_
      simp only [Act.put, List.setIfInBounds_toArray, List.set_cons_zero, List.set_cons_succ]
      refine any_take (i := 10) (some 27) (.int .i64 (c j : Nat)) rfl (by rfl) (by kernel_rfl) (by kernel_rfl) (by kernel_rfl) (fun _ _ _ h => h) (Or.inl ⟨by kernel_rfl, (fun W hw => by obtain ⟨e1, e2, e3, e4, e5⟩ := EX.out W hw; clear hw; go_simp)⟩) hS5 ?_
      simp only [Act.put, List.setIfInBounds_toArray, List.set_cons_zero, List.set_cons_succ]
      refine any_take (i := 16) (some 33) (.bool bb) rfl (by rfl) (by kernel_rfl) (by kernel_rfl) (by kernel_rfl) (fun _ _ _ h => h) (Or.inl ⟨by kernel_rfl, (fun W hw => by clear hw; go_simp)⟩) hS5 ?_
      simp only [Act.put, List.setIfInBounds_toArray, List.set_cons_zero, List.set_cons_succ]
      refine wpAnyH_done (by kernel_rfl) ?_ _
      have ho5 := own_below HO.out.1 hS5
      have hb5' : Below w.heap.size w w5 := HO.out.2.2.trans (hS5.mono HO.out.2.2.size)
      obtain ⟨y2, hy2⟩ : ∃ y, ((V.take k).filter (selC (gM M) c i)) = y := ⟨_, rfl⟩
      have hyl := HST.out.2
      rw [hy2] at ho5 hyl ⊢
      obtain ⟨g4, c4, w4, hrun, hown4, hb4⟩ := app_io w1.heap.size w5 (Nat.le_trans HO.out.2.1.size hS5.size) (.slice As y2.length cs) y2 ho5 a (by omega)
      have z0 : w5.cell? ⟨bv, ov + k, none⟩ = some (.int .i64 a) := (EX.out w5 hS5).2.2.1
      have HA := Lib.hid (And.intro hy2 (And.intro hS5 (And.intro ho5 hown4)))
      have HA2 := Lib.hid (show Below w1.heap.size w1 w4 from (HO.out.2.1.trans (hS5.mono HO.out.2.1.size)).trans hb4)
      clear hS hS5 hb5 ho5 hb5' hy2 hyl hown4 hb4 EX HVR e1
      cases bb with
      | true =>
        go_wp2_with fail
        go_roundw
        case rel =>
          refine ⟨k + 1, by go_num, hkl, ?_, HA2.out⟩
          rw [HST.out.1, if_pos rfl, HA.out.1]
          exact HA.out.2.2.2
        case measure => simp [intOf]; omega
      | false =>
        go_wp2_with fail
        go_roundw
        case rel =>
          refine ⟨k + 1, by go_num, hkl, ?_, HO.out.2.1.trans (HA.out.2.1.mono HO.out.2.1.size)⟩
          rw [HST.out.1, if_neg (by decide), List.append_nil, HA.out.1]
          exact HA.out.2.2.1
        case measure => simp [intOf]; omega
    · have hke : k = V.length := by omega
      subst hke
      have HZ := Lib.hid HO.out.2.2
      go_wp2_with fail
      go_ret
      have hfin : Rd wr 1 (.slice As ((V.take V.length).filter (selC (gM M) c i)).length cs) (V.filter (selC (gM M) c i)).length (ints (V.filter (selC (gM M) c i))) := by
        have := Rd.of_own HO.out.1
        rw [List.take_length] at this ⊢
        exact this
      exact ⟨_, rfl, hfin, HZ.out⟩
end Go.Proofs.Ytbnpmeaaaecciaa
/- unify: the program's classes and the answer's, side by side. -/
namespace Go.Proofs.Ytbnpmeaaaecciaa
open Go.RowKit
open Un (rowI rowI_get own_shape paint Else)
set_option maxRecDepth 100000
/-- No node without a kind. -/
def GK (G : List Gn) : Prop := ∀ p ∈ G, p.1 ≠ 0
theorem gnode_GK {G : List Gn} {k n : Int} {P : List Nat} (h : GK G) (hk : k ≠ 0) : GK (gnode G k n P).1 := by
  unfold gnode
  split
  · exact h
  · intro p hp
    rcases List.mem_append.1 hp with hp | hp
    · exact h p hp
    · simp only [List.mem_singleton] at hp
      subst hp
      exact hk
theorem alone_kind {k n : Int} {m : Nat} (h : alone k n m = true) : k ≠ 0 := by
  rintro rfl
  simp [alone] at h
theorem gadd_GK (F : Fo) : ∀ G, GK G → (∀ x ∈ F.pre, alone x.1 x.2.1 x.2.2.2.1 = true) → GK (gadd G F).1 := by
  induction F with
  | nil => intro G h _; rw [gadd_nil]; exact h
  | cons k n u ps r i1 i2 =>
    intro G h hw
    rw [gadd_cons]
    refine i2 _ ?_ fun x hx => hw x (by simp [Fo.pre, hx])
    rw [gadd1_eq]
    exact gnode_GK (i1 G h fun x hx => hw x (by simp [Fo.pre, hx])) (alone_kind (hw (k, n, u) (by simp [Fo.pre])))
theorem gadd1_GK {G : List Gn} {t : Ty1} (h : GK G) (hr : rt1 t = true) : GK (gadd1 G t.1 t.2.1 t.2.2.2).1 := by
  unfold rt1 at hr
  rw [Bool.and_eq_true] at hr
  rw [gadd1_eq]
  refine gnode_GK (gadd_GK _ _ h ?_) (alone_kind hr.1)
  have := hr.2
  unfold allAlone at this
  rw [List.all_eq_true] at this
  exact this
theorem fold_GK (m : List Eqn) : ∀ s : Sys, GK s.1 → (∀ y ∈ m, rtE y = true) → GK (m.foldl stp s).1 := by
  induction m with
  | nil => intro s h _; exact h
  | cons x m ih =>
    intro s h hw
    refine ih _ ?_ fun y hy => hw y (List.mem_cons_of_mem _ hy)
    have hx := hw x List.mem_cons_self
    unfold rtE at hx
    rw [Bool.and_eq_true] at hx
    exact gadd1_GK (t := x.2.1) (gadd1_GK (t := x.1) h hx.1) hx.2
theorem cls_GK (l : List Eqn) (h : ∀ y ∈ l, rtE y = true) : GK (cls l).1 := fold_GK l _ (fun p hp => by simp at hp) h
/-- Both tell the same classes. -/
structure Both (G : List Gn) (col ro : Nat → Nat) (kn : Kn) (E : List (Nat × Nat)) (cc : Nat → Nat) : Prop where
  js : Js G G.length col ro kn E []
  rc : Rc G cc E
  he : ∀ a b, (a, b) ∈ E → a < G.length ∧ b < G.length ∧ cc a = cc b
  hc : ClosedC G cc
  gn : GN G
  gk : GK G
  nc : ¬ Clash G E
section PaBs
variable {G : List Gn} {col ro : Nat → Nat} {kn : Kn} {E : List (Nat × Nat)} {cc : Nat → Nat} {i j : Nat}
theorem Both.cl (h : Both G col ro kn E cc) (hi : i < G.length) (hj : j < G.length) : Cl G E i j ↔ cc i = cc j := by
  rw [h.rc.is h.he h.hc]
  constructor
  · rintro (rfl | ⟨_, _, e⟩)
    · rfl
    · exact e
  · exact fun e => .inr ⟨hi, hj, e⟩
theorem Both.rt (h : Both G col ro kn E cc) (hi : i < G.length) (hj : j < G.length) : ro i = ro j ↔ cc i = cc j := by rw [h.js.same hi hj, h.cl hi hj]
theorem Both.cf (h : Both G col ro kn E cc) (hi : i < G.length) (hj : j < G.length) (e : col i = col j) : cc i = cc j := (h.cl hi hj).1 (h.js.jn.done.2 (.inr ⟨hi, hj, e⟩))
theorem Both.cg (h : Both G col ro kn E cc) (hi : i < G.length) (hj : j < G.length) (e : cc i = cc j) : col i = col j := by
  rcases h.js.jn.done.1 ((h.cl hi hj).2 e) with rfl | ⟨_, _, e⟩
  · rfl
  · exact e
theorem Both.kind (h : Both G col ro kn E cc) (hi : i < G.length) {r : Int} (hr : RKind G cc i r) : kindO G (kn (ro i)).1 = r := by
  cases hk : (kn (ro i)).1 with
  | none =>
    rcases hr with ⟨k, p, hp, hc, p1, _⟩ | ⟨rfl, _⟩
    · exact absurd (h.js.vars hi hk ((h.cl hi (lt_of_get hp)).2 hc.symm) hp) p1
    · rfl
  | some z =>
    obtain ⟨p, hp, p1, hcz⟩ := h.js.md.some i z hi hk
    have hz := lt_of_get hp
    have hcc := h.cf hz hi hcz
    rcases hr with ⟨k, q, hq, hc, q1, rfl⟩ | ⟨rfl, hn⟩
    · have hf : Fit p q := Classical.byContradiction fun hf => h.nc ⟨z, k, p, q, (h.cl hz (lt_of_get hq)).2 (hcc.trans hc.symm), hp, hq, p1, q1, hf⟩
      simp only [kindO, hp, Option.map_some, Option.getD_some]
      exact hf.1
    · exact absurd (hn z p hp hcc) p1
theorem Both.least (h : Both G col ro kn E cc) (hi : i < G.length) : leastV G (kn (ro i)).2 = (((vsort G).filter (selC G cc i)).head?).getD (-1) := by
  obtain ⟨hv1, hv2⟩ := vfold G [] List.Pairwise.nil
  have hv1 : (vsort G).Pairwise (· ≤ ·) := hv1
  have hv2 : (vsort G).Perm (names G) := by simpa [vsort] using hv2
  have hmem : ∀ b, b ∈ (vsort G).filter (selC G cc i) ↔ ∃ v p, G[v]? = some p ∧ p.1 = 1 ∧ p.2.1 = b ∧ cc v = cc i := fun b => by
    rw [List.mem_filter]
    constructor
    · rintro ⟨hb, hs⟩
      obtain ⟨v, hv, hvv, hvl⟩ := ivar_of hb
      unfold selC at hs
      rw [hvv] at hs
      obtain ⟨p, hp, p1, p2⟩ := gvar_at hv
      exact ⟨v, p, hp, p1, p2, by simpa using hs⟩
    · rintro ⟨v, p, hp, p1, rfl, hc⟩
      have hv := gvar_node h.gn hp p1
      refine ⟨hv2.mem_iff.2 ((gvar_names G _).1 (by rw [hv]; rfl)), ?_⟩
      unfold selC
      rw [show ivar G p.2.1 = (v : Nat) by rw [ivar, hv]]
      simpa using hc
  have hs := hv1.sublist (List.filter_sublist (l := vsort G) (p := selC G cc i))
  cases hk : (kn (ro i)).2 with
  | none =>
    have : (vsort G).filter (selC G cc i) = [] := List.eq_nil_iff_forall_not_mem.2 fun b hb => by
      obtain ⟨v, p, hp, p1, _, hc⟩ := (hmem b).1 hb
      exact h.js.le.no i v p hi hk hp p1 (h.cg (lt_of_get hp) hi hc)
    rw [this]
    rfl
  | some l0 =>
    obtain ⟨hl0, ⟨p, hp, p1⟩, hcl, hmin⟩ := h.js.le.is i l0 hi hk
    have hnm : nmG G l0 = p.2.1 := by simp [nmG, hp]
    have hin : nmG G l0 ∈ (vsort G).filter (selC G cc i) := (hmem _).2 ⟨l0, p, hp, p1, hnm.symm, h.cf hl0 hi hcl⟩
    show nmG G l0 = _
    cases hf : (vsort G).filter (selC G cc i) with
    | nil => rw [hf] at hin; cases hin
    | cons a L =>
      rw [hf] at hin hs
      have ha : a ∈ (vsort G).filter (selC G cc i) := by rw [hf]; exact List.mem_cons_self
      obtain ⟨v, q, hq, q1, rfl, hc⟩ := (hmem a).1 ha
      have h1 := hmin v q hq q1 (h.cg (lt_of_get hq) hi hc)
      have h2 : q.2.1 ≤ nmG G l0 := by
        rcases List.mem_cons.1 hin with e | hm
        · omega
        · exact (List.pairwise_cons.1 hs).1 _ hm
      show nmG G l0 = q.2.1
      omega
theorem Both.whole (h : Both G col ro kn E cc) (hi : i < G.length) {r : Int} (hr : WholeIs G cc i r) :
    (r = -1 ∧ (kn (ro i)).1 = none ∧ partsO G (kn (ro i)).1 = []) ∨ ∃ (k : Nat) (p : Gn), r = k ∧ G[k]? = some p ∧ (∃ z, (kn (ro i)).1 = some z) ∧ kindO G (kn (ro i)).1 ≠ 0 ∧ (partsO G (kn (ro i)).1).map ro = p.2.2.2.map ro := by
  rcases hr with ⟨k, p, rfl, hp, hc, p1⟩ | ⟨rfl, hn⟩
  · right
    have hk := lt_of_get hp
    obtain ⟨z, q, hz, hq, q1, hf, hcz⟩ := h.js.known hi ((h.cl hi hk).2 hc.symm) hp p1
    have hzl := lt_of_get hq
    refine ⟨k, p, rfl, hp, ⟨z, hz⟩, ?_, ?_⟩
    · rw [hz]
      simp only [kindO, hq, Option.map_some, Option.getD_some]
      exact h.gk q (List.mem_of_getElem? hq)
    · have e : partsO G (some z) = q.2.2.2 := by simp [partsO, hq]
      rw [hz, e]
      refine List.ext_getElem? fun j => ?_
      rw [List.getElem?_map, List.getElem?_map]
      have hlen : q.2.2.2.length = p.2.2.2.length := hf.2
      by_cases hj : j < q.2.2.2.length
      · have hj' : j < p.2.2.2.length := by omega
        rw [List.getElem?_eq_getElem hj, List.getElem?_eq_getElem hj']
        simp only [Option.map_some, Option.some.injEq]
        have ha := h.rc.parts z q hq _ (List.getElem_mem hj)
        have hb := h.rc.parts k p hp _ (List.getElem_mem hj')
        rw [h.js.same ha hb]
        exact .part ((hcz.symm).trans ((h.cl hi hk).2 hc.symm)) hq hp q1 p1 hf.1 hlen (List.getElem?_eq_getElem hj) (List.getElem?_eq_getElem hj')
      · rw [List.getElem?_eq_none (by omega), List.getElem?_eq_none (by omega)]
  · left
    have hk : (kn (ro i)).1 = none := by
      cases hk : (kn (ro i)).1 with
      | none => rfl
      | some z =>
        obtain ⟨p, hp, p1, hcz⟩ := h.js.md.some i z hi hk
        exact absurd (hn z p hp (h.cf (lt_of_get hp) hi hcz)) p1
    exact ⟨rfl, hk, by rw [hk]; rfl⟩
end PaBs
end Go.Proofs.Ytbnpmeaaaecciaa
