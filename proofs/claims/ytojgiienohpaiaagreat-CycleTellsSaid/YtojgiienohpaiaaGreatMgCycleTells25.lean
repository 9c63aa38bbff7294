/- Texts of one proof, one behind the other. -/
import Derived.Test.YtojgiienohpaiaaGreatMgCycleTells24
import Derived.Test.YtojgiienohpaiaaGreatMgCycleTells21
import Derived.Test.YtojgiienohpaiaaGreatMgCycleTells13
import Derived.Test.YtojgiienohpaiaaGreatMgCycleTells19
namespace Go.Proofs.YtojgiienohpaiaaGreat
open Un (cnt)
def Nx (G : List Gn) (E : List (Nat × Nat)) (j i : Nat) : Prop := ∃ (z : Nat) (p : Gn), Cl G E i z ∧ G[z]? = some p ∧ p.1 ≠ 1 ∧ j ∈ p.2.2.2
def FinC (G : List Gn) (E : List (Nat × Nat)) : Prop := ∀ v i, gvar G v = some i → Acc (Nx G E) i
def GL (G : List Gn) : Prop := ∀ (i : Nat) (p : Gn), G[i]? = some p → ∀ u ∈ p.2.2.2, u < i
theorem gnode_GL {G : List Gn} {k n : Int} {P : List Nat} (h : GL G) (hlt : ∀ u ∈ P, u < G.length) : GL (gnode G k n P).1 := by
  unfold gnode
  split
  · exact h
  · intro i p hp u hu
    rcases Nat.lt_or_ge i G.length with hi | hi
    · rw [List.getElem?_append_left hi] at hp
      exact h i p hp u hu
    · rw [List.getElem?_append_right hi] at hp
      cases hj : i - G.length with
      | zero =>
        rw [hj] at hp
        simp only [List.getElem?_cons_zero, Option.some.injEq] at hp
        subst hp
        have := hlt u hu
        omega
      | succ j => rw [hj] at hp; simp at hp
theorem chR_ro {n : Nat} {G : List Gn} {kn : Kn} {ro : Nat → Nat} (hP : ∀ p ∈ G, p.2.2.2.length ≤ 8 ∧ ∀ u ∈ p.2.2.2, u < n) (x y : Nat) (hy : y ∈ chR G kn ro x) : ∃ u, u < n ∧ y = ro u := by
  unfold chR at hy
  obtain ⟨u, hu, rfl⟩ := List.mem_map.1 hy
  refine ⟨u, ?_, rfl⟩
  unfold partsO at hu
  cases h : (kn x).1 with
  | none => rw [h] at hu; simp at hu
  | some k =>
    rw [h] at hu
    cases hg : G[k]? with
    | none => simp [hg] at hu
    | some p => simp [hg] at hu; exact (hP p (List.mem_of_getElem? hg)).2 u hu
section CyQs
variable {G H : List Gn} {E F : List (Nat × Nat)} {n : Nat} {col ro : Nat → Nat} {kn : Kn} {i j : Nat}
theorem Nx.cl (h : Cl G E i j) {k : Nat} (hx : Nx G E k j) : Nx G E k i := by
  obtain ⟨z, p, h1, h2⟩ := hx
  exact ⟨z, p, h.trans h1, h2⟩
theorem acc_cl (h : Cl G E i j) (ha : Acc (Nx G E) i) : Acc (Nx G E) j := ⟨j, fun _ hk => ha.inv (hk.cl h)⟩
theorem nx_roots (h : Js G n col ro kn E []) (hP : Gp G) (hi : i < n) : Acc (Nx G E) i ↔ Acc (Chl (chR G kn ro)) (ro i) := by
  have hlen := h.len
  constructor
  · intro ha
    induction ha with
    | intro i _ ih =>
      refine ⟨_, fun y hy => ?_⟩
      have hy : y ∈ chR G kn ro (ro i) := hy
      unfold chR at hy
      obtain ⟨u, hu, rfl⟩ := List.mem_map.1 hy
      cases hk : (kn (ro i)).1 with
      | none => rw [hk] at hu; cases hu
      | some z =>
        obtain ⟨p, hp, p1, hc⟩ := h.md.some i z (by omega) hk
        rw [hk] at hu
        have hu : u ∈ p.2.2.2 := by simpa [partsO, hp] using hu
        have hul := (hP p (List.mem_of_getElem? hp)).2 u hu
        exact ih u ⟨z, p, h.jn.done.2 (.inr ⟨by omega, lt_of_get hp, hc.symm⟩), hp, p1, hu⟩ (by omega)
  · intro ha
    obtain ⟨a, hae⟩ : ∃ a, ro i = a := ⟨_, rfl⟩
    rw [hae] at ha
    induction ha generalizing i with
    | intro a _ ih =>
      subst hae
      refine ⟨_, fun j hj => ?_⟩
      obtain ⟨z, p, hc, hp, p1, hjp⟩ := hj
      obtain ⟨k, q, hk, hq, q1, hf, hck⟩ := h.known hi hc hp p1
      obtain ⟨t, ht, rfl⟩ := List.getElem_of_mem hjp
      have htq : t < q.2.2.2.length := by have := hf.2; omega
      have hjl := (hP p (List.mem_of_getElem? hp)).2 _ (List.getElem_mem ht)
      have hul := (hP q (List.mem_of_getElem? hq)).2 _ (List.getElem_mem htq)
      have hcu : Cl G E q.2.2.2[t] p.2.2.2[t] := .part (hck.symm.trans hc) hq hp q1 p1 hf.1 hf.2 (List.getElem?_eq_getElem htq) (List.getElem?_eq_getElem ht)
      refine ih (ro p.2.2.2[t]) ?_ (by omega) rfl
      show ro p.2.2.2[t] ∈ chR G kn ro (ro i)
      rw [← (h.same (by omega) (by omega)).2 hcu]
      unfold chR
      refine List.mem_map_of_mem ?_
      rw [hk]
      simp [partsO, hq]
theorem acc_all (hnc : ¬ Clash G E) (hg : GN G) (hl : GL G) (hf : FinC G E) : ∀ i, i < G.length → Acc (Nx G E) i := by
  intro i
  induction i using Nat.strongRecOn with
  | ind i ih =>
    intro hi
    obtain ⟨p, hp⟩ : ∃ p, G[i]? = some p := ⟨_, List.getElem?_eq_getElem hi⟩
    by_cases p1 : p.1 = 1
    · exact hf p.2.1 i (gvar_node hg hp p1)
    · refine ⟨_, fun j hj => ?_⟩
      obtain ⟨z, q, hc, hq, q1, hjq⟩ := hj
      have hfit : Fit p q := Classical.byContradiction fun hf => hnc ⟨i, z, p, q, hc, hp, hq, p1, q1, hf⟩
      obtain ⟨t, ht, rfl⟩ := List.getElem_of_mem hjq
      have htp : t < p.2.2.2.length := by have := hfit.2; omega
      have hlt := hl i p hp _ (List.getElem_mem htp)
      exact acc_cl (.part hc hp hq p1 q1 hfit.1 hfit.2 (List.getElem?_eq_getElem htp) (List.getElem?_eq_getElem ht)) (ih _ hlt (by omega))
end CyQs
end Go.Proofs.YtojgiienohpaiaaGreat
namespace Go.Proofs.YtojgiienohpaiaaGreat
open Go.RowKit
open Un (Else StM rowI UFo own_else dg swp wp_world paint cnt Rings)
attribute [local go_sem] Oper.semAt_some
set_option maxRecDepth 100000
def CtJ (fb : Nat) (D : List (Nat × Bool)) (g : Bool) (W : World) : Prop := W.heap[fb]? = some (Obj.cells #[.bool g] 4) ∧ (g = true → ∀ x b, (x, b) ∈ D → b = true) ∧ (g = false → ∃ x, (x, false) ∈ D)
theorem count1_any (fb : Nat) (cb n : Nat) (ch : Nat → List Nat) (Q : World → Prop) : TellOk 38 #[.pointer (some ⟨fb, 0, none⟩)] cb n ch (fun k => k = fb) (CtJ fb) Q := by
  intro D W r b P k _ hJ _ _ _ _ _
  obtain ⟨P1, P2, P3⟩ := P
  show Calls _ _ #[.agg #[.pointer (some ⟨cb, 0, none⟩), .int .i64 (r : Nat), .slice P1 P2 P3, .int .i64 (k : Nat)], .bool b, .pointer (some ⟨fb, 0, none⟩)] W _
  have hl := (Array.getElem?_eq_some_iff.1 hJ.1).1
  have c0 : W.cell? ⟨fb, 0, none⟩ = some (.bool true) := cell_of_row W _ 0 _ _ (0, 0) hJ.1
  have cz : W.frozen? ⟨fb, 0, none⟩ = false := by simp [World.frozen?, hJ.1]
  have HJ := Lib.hid hJ
  clear hJ
  go_enter Tryz.func38, Tryz.ntmps38
  go_wp2_with fail
  refine bodyPost_ret (results_tmp rfl _ _ _) rfl ⟨b, rfl, ⟨?_, fun hb x c hm => ?_, fun hb => ⟨r, by rw [hb]; simp⟩⟩, ?_⟩
  · first
    | exact (Below.heap_alloc _ _ _ (by simpa using hl)).trans (heap_setCell_same W fb 0 _ _ _ HJ.out.1)
    | exact heap_setCell_same _ fb 0 _ _ _ ((Below.heap_alloc _ _ _ hl).trans HJ.out.1)
  · rcases List.mem_append.1 hm with hm | hm
    · exact HJ.out.2.1 rfl x c hm
    · obtain ⟨rfl, rfl⟩ : x = r ∧ c = b := by simpa using hm
      exact hb
  · first
    | exact (Un.Else.set (S := fun k => k = fb) W (p := ⟨fb, 0, none⟩) rfl _).trans (Un.Else.alloc _ _ _)
    | exact (Un.Else.alloc _ _ _).trans (Un.Else.set (S := fun k => k = fb) _ (p := ⟨fb, 0, none⟩) rfl _)
section CyGs
variable {O : Nat → Prop} {w : World} {cb m : Nat} {G : List Gn} {E : List (Nat × Nat)} {st fs : Int}
def CtPost (O : Nat → Prop) (w : World) (cb : Nat) (G : List Gn) (E : List (Nat × Nat)) (st fs : Int) (m : Nat) (x : Ending) (w' : World) : Prop :=
  ∃ (b : Bool) (q k : Nat), x = .returned (.tuple #[.bool b, .int .i64 (q : Nat)]) ∧ (b = true ↔ FinC G E) ∧ q ≤ 35 * G.length + 1 ∧ k ≤ 400 * G.length ∧ CsM O w' cb G E st (fs + k) m ∧ Else O w w'
set_option maxHeartbeats 2000000 in
theorem count_cs (h : CsM O w cb G E st fs m) (hfs : 0 ≤ fs ∧ fs ≤ 20000000000) (hG : G.length ≤ 400000) (hgn : GN G) (hgl : GL G) :
    Calls Tryz.prog 10 #[.pointer (some ⟨cb, 0, none⟩)] w (CtPost O w cb G E st fs m) := by
  obtain ⟨⟨A, kn, nx, col, ro, hC, hJ, hR, hB, hm⟩, h2, h3⟩ := h
  have HER : Hid (Calls Tryz.prog 36 #[.pointer (some ⟨cb, 0, none⟩)] w fun e w' => e = .returned (.int .i64 0) ∧ w' = w) := Lib.hid (err_cl hC)
  obtain ⟨w1, hw1⟩ : ∃ w1, w.alloc (Obj.cells #[.bool true] 4) = w1 := ⟨_, rfl⟩
  have hb1 : Below w.heap.size w w1 := by rw [← hw1]; exact (Below.refl _ _).alloc (Nat.le_refl _) _
  have hx1 : w1.heap[w.heap.size]? = some (Obj.cells #[.bool true] 4) := by rw [← hw1]; exact heap_alloc_new _ _
  have HWK := Lib.hid (walk_any (gf := 38) (lb := #[.pointer (some ⟨w.heap.size, 0, none⟩)]) (T := fun k => k = w.heap.size) (J := CtJ w.heap.size) (enters_of Tryz.func38 (by kernel_rfl) rfl) (hC.below hb1) hfs (by omega) hgn h3 (fun i hi => (hJ.rt i hi).1) (count1_any w.heap.size cb G.length _ _) (fun k hk => by subst hk; exact ⟨(Array.getElem?_eq_some_iff.1 hx1).1, fun hk => Nat.lt_irrefl _ (hC.lt hk)⟩) (fun D g S W W' hj he hs => ⟨(he.block _ (Array.getElem?_eq_some_iff.1 hj.1).1 (fun hS => hs _ hS rfl)).trans hj.1, hj.2⟩) ⟨hx1, (fun _ x b hm => by cases hm), (fun h => by cases h)⟩)
  have H := Lib.hid (And.intro hC (And.intro hJ (And.intro hR (And.intro hB (And.intro hm (And.intro h2 (And.intro h3 (And.intro hb1 (And.intro hgn hgl)))))))))
  have HW1 := Lib.hid hw1
  clear hC hJ hR hB hm h2 h3 hb1 hx1 hgn hgl hw1 hfs
  go_enter Tryz.func10, Tryz.ntmps10
  go_wp2_with fail
  refine HER.out.mono ?_
  clear HER
  rintro x w' ⟨rfl, rfl⟩
  go_wp2_with fail
  rw [HW1.out]
  refine HWK.out.mono ?_
  clear HWK
  rintro x w2 ⟨g, e, S, D, f, q, rfl, hC2, hf, hq, hJ2, hE2, hdf, htd, hnd, hdl, hg⟩
  have c0 : w2.cell? ⟨w'.heap.size, 0, none⟩ = some (.bool g) := cell_of_row w2 _ 0 _ _ (0, 0) hJ2.1
  have H2 := Lib.hid (And.intro hC2 (And.intro hf (And.intro hq (And.intro hJ2.2 (And.intro hE2 (And.intro hdf (And.intro htd (And.intro hdl hg))))))))
  clear hC2 hf hq hJ2 hE2 hdf htd hnd hdl hg
  go_wp2_with fail
  obtain ⟨hC2, hf, hq, hJ2, hE2, hdf, htd, hdl, hg⟩ := H2.out
  obtain ⟨hC, hJ, hR, hB, hm, h2, h3, hb1, hgn, hgl⟩ := H.out
  have hE : Else A.S w' w2 := ((Else.of_below hb1).trans hE2).old fun k hk => hk.imp id fun h => by omega
  refine bodyPost_ret (results_tmp2 rfl _ _ _) rfl ⟨g, q, f, rfl, ?_, hq, hf, CsM.turned hC2 hE hJ hR hB hm h2 h3, hE.mono fun k hk => hC.own k (.inr (.inl hk))⟩
  constructor
  · intro hgt v i hvi
    obtain ⟨b, hb⟩ := (hg hgt).2 v i hvi
    have hbt := hJ2.1 hgt _ _ hb
    subst hbt
    exact (nx_roots hJ h3 (gvar_lt hvi)).2 (hdf.tt _ (htd.known _ _ hb).1)
  · intro hfin
    cases g with
    | true => rfl
    | false =>
      obtain ⟨x, hx⟩ := hJ2.2 rfl
      exfalso
      obtain ⟨k1, k2⟩ := htd.known _ _ hx
      have hxn := hdl _ _ hx
      have hnr : ¬ Acc (Chl (chR G kn ro)) x := hdf.ff _ k1 k2
      refine hnr ⟨x, fun y hy => ?_⟩
      obtain ⟨u, hu, rfl⟩ := chR_ro (n := G.length) h3 x y hy
      exact (nx_roots hJ h3 hu).1 (acc_all hJ.jn.noClash hgn hgl hfin u hu)
end CyGs
end Go.Proofs.YtojgiienohpaiaaGreat
namespace Go.Proofs.YtojgiienohpaiaaGreat
open Go.RowKit
open Un (Else StM rowI UFo own_else dg swp wp_world paint cnt Rings)
attribute [local go_sem] Oper.semAt_some
set_option maxRecDepth 100000
section CyHs
variable {O : Nat → Prop} {w : World} {cb m : Nat} {G : List Gn} {E : List (Nat × Nat)} {st fs : Int}
def FnPost (O : Nat → Prop) (w : World) (cb : Nat) (G : List Gn) (E : List (Nat × Nat)) (st fs : Int) (m : Nat) (x : Ending) (w' : World) : Prop :=
  ∃ (b : Bool) (k : Nat), x = .returned (.bool b) ∧ (b = true ↔ FinC G E) ∧ k ≤ 400 * G.length ∧ CsM O w' cb G E st (fs + k) m ∧ Else O w w'
theorem finite_cs (h : CsM O w cb G E st fs m) (hfs : 0 ≤ fs ∧ fs ≤ 20000000000) (hG : G.length ≤ 400000) (hgn : GN G) (hgl : GL G) :
    Calls Tryz.prog 12 #[.pointer (some ⟨cb, 0, none⟩)] w (FnPost O w cb G E st fs m) := by
  have HC := Lib.hid (count_cs h hfs hG hgn hgl)
  clear h hfs hG hgn hgl
  go_enter Tryz.func12, Tryz.ntmps12
  go_wp2_with fail
  refine HC.out.mono ?_
  rintro x w' ⟨b, q, k, rfl, hb, _, hk, hC, hE⟩
  have H := Lib.hid (And.intro hb (And.intro hk (And.intro hC hE)))
  clear hb hk hC hE
  go_wp2_with fail
  exact bodyPost_ret (results_tmp rfl _ _ _) rfl ⟨b, k, rfl, H.out⟩
variable {p : Option Addr}
end CyHs
end Go.Proofs.YtojgiienohpaiaaGreat
namespace Go.Proofs.YtojgiienohpaiaaGreat
open Go.RowKit
open Un (Else StM rowI UFo own_else dg swp wp_world paint cnt Rings)
attribute [local go_sem] Oper.semAt_some
attribute [local go_sem ↓] builtin_app
set_option maxRecDepth 100000
def CyJ (eb em : Nat) (D : List (Nat × Bool)) (g : Bool) (W : World) : Prop := g = true ∧ W.heap[eb]? = some (Obj.cells #[.map (some em)] 83) ∧ ∃ (ed : Nat → Option Bool) (S k : Nat), k ≤ D.length ∧ MapF (endF ed) S k em W ∧ ∀ x b, (x, b) ∈ D → ed x = some (!b)
section CyIs
variable {O : Nat → Prop} {w : World} {cb m : Nat} {G : List Gn} {E : List (Nat × Nat)} {st fs : Int} {A : Adr} {kn : Kn} {nx col ro : Nat → Nat} {n : Nat}
theorem cyclic1_any (eb em : Nat) (hne : eb ≠ em) (ch : Nat → List Nat) (hn : n ≤ 500000) : TellOk 39 #[.pointer (some ⟨eb, 0, none⟩)] cb n ch (fun k => k = em) (CyJ eb em) fun W => ∃ f, ClM O W cb A st false n G kn nx col ro f := by
  intro D W r b P k hQ hJ _ _ hnew hrn hDl
  obtain ⟨f, hC⟩ := hQ
  obtain ⟨P1, P2, P3⟩ := P
  show Calls _ _ #[.agg #[.pointer (some ⟨cb, 0, none⟩), .int .i64 (r : Nat), .slice P1 P2 P3, .int .i64 (k : Nat)], .bool b, .pointer (some ⟨eb, 0, none⟩)] W _
  obtain ⟨_, hcell, ed, S, kk, hkk, hmap, hed⟩ := hJ
  have hl := (Array.getElem?_eq_some_iff.1 hcell).1
  have hel := hmap.lt
  obtain ⟨Z, hZe⟩ : ∃ Z, W.alloc (.cells #[.pointer (some ⟨cb, 0, none⟩), .int .i64 (r : Nat), .slice P1 P2 P3, .int .i64 (k : Nat)] 81) = Z := ⟨_, rfl⟩
  have hbZ : Below W.heap.size W Z := by rw [← hZe]; exact (Below.refl _ _).alloc (Nat.le_refl _) _
  have hbx : Z.heap[W.heap.size]? = some (.cells #[.pointer (some ⟨cb, 0, none⟩), .int .i64 (r : Nat), .slice P1 P2 P3, .int .i64 (k : Nat)] 81) := by rw [← hZe]; exact heap_alloc_new _ _
  have hcZ := (hbZ.block _ hl).trans hcell
  have hmZ := hmap.below hbZ
  have hCZ := hC.below hbZ
  have EX : Hid (∀ V, Else (fun k => k = em) Z V → V.cell? ⟨eb, 0, none⟩ = some (.map (some em)) ∧ V.cell? ⟨W.heap.size, 0, none⟩ = some (.pointer (some ⟨cb, 0, none⟩)) ∧ V.cell? ⟨W.heap.size, 1, none⟩ = some (.int .i64 (r : Nat))) := Lib.hid fun V hV => by
    have h1 := (hV.block _ (Array.getElem?_eq_some_iff.1 hcZ).1 (fun h => hne h)).trans hcZ
    have h2 := (hV.block _ (Array.getElem?_eq_some_iff.1 hbx).1 (fun h => by omega)).trans hbx
    exact ⟨cell_of_row V _ 0 _ _ (0, 0) h1, cell_of_row V _ 0 _ _ (0, 0) h2, cell_of_row V _ 1 _ _ (0, 0) h2⟩
  have HID : Hid (∀ V, Below Z.heap.size Z V → Calls Tryz.prog 40 #[.agg #[.pointer (some ⟨cb, 0, none⟩), .int .i64 (r : Nat)]] V fun e w' => e = .returned (.int .i64 (r : Nat)) ∧ Below V.heap.size V w') := Lib.hid fun V hV => pid_cl (hCZ.below hV) r
  have H := Lib.hid (And.intro hbZ (And.intro hcZ (And.intro hmZ (And.intro hkk (And.intro hed (And.intro hnew (And.intro hrn (And.intro hn (And.intro hDl (And.intro hne hel))))))))))
  have HZe := Lib.hid hZe
  clear hC hcell hmap hed hl hel hbZ hbx hcZ hmZ hCZ hkk hnew hrn hZe hDl hn
  go_enter Tryz.func39, Tryz.ntmps39
  go_wp2_with fail
  rw [HZe.out]
  have hB : Below Z.heap.size Z Z.drew := (Below.refl _ _).drew
  have hS : Else (fun k => k = em) Z Z.drew := Else.of_below hB
  refine wp_region_held (S := (fun W => Else (fun k => k = em) Z W)) (by kernel_rfl) ?_
  change wpAnyH _ _ _ _ _ 7 (List.replicate 7 false).toArray _ Z.drew
  simp only [List.replicate_succ, List.replicate_zero]
  refine any_take (i := 0) (some 6) (.map (some em)) rfl (by rfl) (by kernel_rfl) (by kernel_rfl) (by kernel_rfl) (fun _ _ _ h => h) (Or.inl ⟨by kernel_rfl, (fun W hw => by obtain ⟨n0_, n1_, n2_⟩ := EX.out W hw; clear hw; go_simp)⟩) hS ?_
  simp only [Act.put, List.setIfInBounds_toArray, List.set_cons_zero, List.set_cons_succ]
  refine any_take (i := 1) (some 7) (.pointer (some ⟨W.heap.size, 0, none⟩)) rfl (by rfl) (by kernel_rfl) (by kernel_rfl) (by kernel_rfl) (fun _ _ _ h => h) (Or.inl ⟨by kernel_rfl, (fun W hw => by clear hw; go_simp)⟩) hS ?_
  simp only [Act.put, List.setIfInBounds_toArray, List.set_cons_zero, List.set_cons_succ]
  refine any_take (i := 2) (some 8) (.agg #[.pointer (some ⟨cb, 0, none⟩), .int .i64 (r : Nat)]) rfl (by rfl) (by kernel_rfl) (by kernel_rfl) (by kernel_rfl) (fun _ _ _ h => h) (Or.inl ⟨by kernel_rfl, (fun W hw => by obtain ⟨n0_, n1_, n2_⟩ := EX.out W hw; clear hw; go_simp)⟩) hS ?_
  simp only [Act.put, List.setIfInBounds_toArray, List.set_cons_zero, List.set_cons_succ]
  refine any_take (i := 4) (some 10) (.bool b) rfl (by rfl) (by kernel_rfl) (by kernel_rfl) (by kernel_rfl) (fun _ _ _ h => h) (Or.inl ⟨by kernel_rfl, (fun W hw => by clear hw; go_simp)⟩) hS ?_
  simp only [Act.put, List.setIfInBounds_toArray, List.set_cons_zero, List.set_cons_succ]
  refine any_take (i := 5) (some 11) (.bool (!b)) rfl (by rfl) (by kernel_rfl) (by kernel_rfl) (by kernel_rfl) (fun _ _ _ h => h) (Or.inl ⟨by kernel_rfl, (fun W hw => by clear hw; go_simp)⟩) hS ?_
  simp only [Act.put, List.setIfInBounds_toArray, List.set_cons_zero, List.set_cons_succ]
  refine wpAnyH_all (rs := [3]) (by kernel_rfl) (by simp) fun q' hq' => ?_
  obtain rfl : q' = 3 := by simpa using hq'
  refine ops_call (d := some 9) rfl (by rfl) (by kernel_rfl) (by go_simp) ((HID.out _ hB).mono ?_)
  rintro y w5 ⟨rfl, hb5⟩
  have hB5 : Below Z.heap.size Z w5 := hB.trans (hb5.mono hB.size)
  have hS5 : Else (fun k => k = em) Z w5 := Else.of_below hB5
  refine ⟨_, rfl, hS5, ?_⟩
  simp only [Act.put, List.setIfInBounds_toArray, List.set_cons_zero, List.set_cons_succ]
  have hrw : (Lit.int .i64 (r : Nat)).wf = true := by have h := wrap64_wf (r : Nat); rwa [IntWalk.wrap64_in _ (by have := H.out.2.2.2.2.2.2.1; have := H.out.2.2.2.2.2.2.2.1; omega)] at h
  obtain ⟨w8, hrun, hm8, hg8, _, _⟩ := (H.out.2.2.1.below hB5).put endsTy (by have := H.out.2.2.2.1; have := H.out.2.2.2.2.2.2.2.2.1; have := H.out.2.2.2.2.2.2.2.1; omega) (r : Nat) hrw (.bool (!b))
  rw [endF_upd] at hm8
  have hE8 : Else (fun k => k = em) w5 w8 := Else.grown hg8 fun k hk => by cases hk; rfl
  have hS8 : Else (fun k => k = em) Z w8 := hS5.trans hE8
  have hm8' : ∃ S, MapF (endF (upe ed r (!b))) S (kk + 1) em w8 := ⟨_, hm8⟩
  have HM8 := Lib.hid (And.intro hm8' hS8)
  clear hm8 hm8' hg8 hE8 hrw
  refine wpAnyH_all (rs := [6]) (by kernel_rfl) (by simp) fun q' hq' => ?_
  obtain rfl : q' = 6 := by simpa using hq'
  refine ops_skip (w' := w8) rfl (by kernel_rfl) (by clear hS hS5 hB hB5 hb5; go_simp) hS8 rfl ?_
  refine wpAnyH_done (by kernel_rfl) ?_ _
  clear hrun hS hS5 hS8 hB hB5 hb5 EX HID
  go_wp2_with fail
  refine bodyPost_ret (results_tmp rfl _ _ _) rfl ⟨true, rfl, ⟨rfl, (HM8.out.2.block _ (Array.getElem?_eq_some_iff.1 H.out.2.1).1 (fun h => H.out.2.2.2.2.2.2.2.2.2.1 h)).trans H.out.2.1, ?_⟩, (Else.of_below H.out.1).trans HM8.out.2⟩
  obtain ⟨z, hz⟩ := HM8.out.1
  refine ⟨_, z, kk + 1, by rw [List.length_append, List.length_singleton]; have := H.out.2.2.2.1; omega, hz, fun x c hm => ?_⟩
  rcases List.mem_append.1 hm with hm | hm
  · have hxr : x ≠ r := fun e => H.out.2.2.2.2.2.1 c (by rw [← e]; exact hm)
    unfold upe
    rw [if_neg hxr]
    exact H.out.2.2.2.2.1 x c hm
  · obtain ⟨rfl, rfl⟩ : x = r ∧ c = b := by simpa using hm
    unfold upe
    rw [if_pos rfl]
def CyPost (O : Nat → Prop) (w : World) (cb : Nat) (G : List Gn) (E : List (Nat × Nat)) (st fs : Int) (m : Nat) (x : Ending) (w' : World) : Prop :=
  ∃ (bb : Int → Bool) (v' : Value) (k : Nat), x = .returned v' ∧ w'.ownsRow w.heap.size 3 1 v' ((vsort G).filter bb).length (ints ((vsort G).filter bb)) ∧ (∀ v i, gvar G v = some i → (bb v = true ↔ ¬ Acc (Nx G E) i)) ∧ k ≤ 500 * G.length ∧ CsM O w' cb G E st (fs + k) m ∧ Else O w w'
set_option maxHeartbeats 4000000 in
theorem cyclic_cs (h : CsM O w cb G E st fs m) (hfs : 0 ≤ fs ∧ fs ≤ 19000000000) (hG : G.length ≤ 400000) (hgn : GN G) :
    Calls Tryz.prog 13 #[.pointer (some ⟨cb, 0, none⟩)] w (CyPost O w cb G E st fs m) := by
  obtain ⟨⟨A, kn, nx, col, ro, hC, hJ, hR, hB, hm⟩, h2, h3⟩ := h
  have hmm := @run_makeMap Tryz.prog
  obtain ⟨w1, hw1⟩ : ∃ w1, (w.alloc (Obj.map #[] 0)).alloc (.cells #[.map (some w.heap.size)] 83) = w1 := ⟨_, rfl⟩
  have hb1 : Below w.heap.size w w1 := by rw [← hw1]; exact ((Below.refl _ _).alloc (Nat.le_refl _) _).alloc (by simp) _
  have hs1 : w1.heap.size = w.heap.size + 2 := by rw [← hw1]; simp
  have hj1 : CyJ (w.heap.size + 1) w.heap.size [] true w1 := by
    refine ⟨rfl, ?_, fun _ => none, 0, 0, Nat.le_refl _, ?_, fun x b hm => by cases hm⟩
    · rw [← hw1]
      have h := heap_alloc_new (w.alloc (Obj.map #[] 0)) (.cells #[.map (some w.heap.size)] 83)
      rw [World.size_alloc] at h
      exact h
    · rw [← hw1]
      have h := (MapF.made w).kept (World.grownBy_alloc _ (.cells #[.map (some w.heap.size)] 83) none) (by simp)
      refine h.ext fun n _ => ?_
      unfold endF
      split <;> rfl
  have hlow : ∀ k, A.D k ∨ A.F cb k → k < w.heap.size := fun k hk => hC.lt hk
  have HWK := Lib.hid (walk_any (gf := 39) (lb := #[.pointer (some ⟨w.heap.size + 1, 0, none⟩)]) (T := fun k => k = w.heap.size ∨ k = w.heap.size + 1) (J := CyJ (w.heap.size + 1) w.heap.size) (enters_of Tryz.func39 (by kernel_rfl) rfl) (hC.below hb1) (by omega) (by omega) hgn h3 (fun i hi => (hJ.rt i hi).1) (fun D W r b P k h1 h2 h3 h4 h5 h6 h7 => (cyclic1_any (w.heap.size + 1) w.heap.size (by omega) _ (by omega) D W r b P k h1 h2 h3 h4 h5 h6 h7).mono fun x w' ⟨g, a1, a2, a3⟩ => ⟨g, a1, a2, a3.mono fun k hk => .inl hk⟩) (fun k hk => ⟨by omega, fun hk2 => by have := hlow k hk2; omega⟩) (fun D g S W W' hj he hs => by
    obtain ⟨g1, g2, ed, S', kk, g3, g4, g5⟩ := hj
    exact ⟨g1, (he.block _ (Array.getElem?_eq_some_iff.1 g2).1 (fun hS => hs _ hS (.inr rfl))).trans g2, ed, S', kk, g3, g4.block (he.block _ g4.lt fun hS => hs _ hS (.inl rfl)), g5⟩) hj1)
  have H := Lib.hid (And.intro hC (And.intro hJ (And.intro hR (And.intro hB (And.intro hm (And.intro h2 (And.intro h3 (And.intro hb1 (And.intro hs1 (And.intro hgn (And.intro hfs (And.intro hG hlow))))))))))))
  have HW1 := Lib.hid hw1
  clear hC hJ hR hB hm h2 h3 hb1 hs1 hj1 hgn hw1 hfs hG hlow
  go_enter Tryz.func13, Tryz.ntmps13
  go_wp2_with fail
  rw [HW1.out]
  refine HWK.out.mono ?_
  clear HWK
  rintro x w2 ⟨g, e, S, D, f, q, rfl, hC2, hf, _, hJ2, hE2, hdf, htd, _, _, hg⟩
  obtain ⟨rfl, hcell, ed, S', kk, _, hmap, hed⟩ := hJ2
  obtain ⟨rfl, hall⟩ := hg rfl
  have hdg : dg G.length ≤ 21 := Un.dg_le (by have := H.out.2.2.2.2.2.2.2.2.2.2.2.1; omega)
  have HV := Lib.hid (vars_cl hC2 (by have := H.out.2.2.2.2.2.2.2.2.2.2.2.1; omega) H.out.2.2.2.2.2.2.2.2.2.1)
  have H2 := Lib.hid (And.intro hC2 (And.intro hf (And.intro hE2 (And.intro hdf (And.intro htd (And.intro hall (And.intro hcell (And.intro hmap (And.intro hed hdg)))))))))
  clear hC2 hf hE2 hdf htd hall hg hcell hmap hed hdg
  go_wp2_with fail
  refine HV.out.mono ?_
  clear HV
  rintro x w3 ⟨v', rfl, hr, hb3⟩
  obtain ⟨Av, cv, rfl, _, _⟩ := Un.own_form hr
  obtain ⟨vs, hvs⟩ : ∃ l, vsort G = l := ⟨_, rfl⟩
  rw [hvs] at hr ⊢
  obtain ⟨bb, hbb⟩ : ∃ bb : Int → Bool, (fun v => match gvar G v with | some i => (ed (ro i)).getD false | none => false) = bb := ⟨_, rfl⟩
  have hvl : vs.length ≤ G.length := by rw [← hvs]; exact vsort_le_ G
  have hcm := H2.out.2.2.2.2.2.2.2.1.lt
  have hc3 := (hb3.block _ (Array.getElem?_eq_some_iff.1 H2.out.2.2.2.2.2.2.1).1).trans H2.out.2.2.2.2.2.2.1
  have hm3 := H2.out.2.2.2.2.2.2.2.1.below hb3
  have H3 := Lib.hid (And.intro hr (And.intro hb3 (And.intro hvs (And.intro hvl (And.intro hbb (And.intro hc3 (And.intro hm3 (H2.out.1.below hb3))))))))
  clear hr hb3 hvs hbb hc3 hm3 hcm
  go_wp2_with fail
  go_loopw [4, 6, 7, 8, 16] (fun s4 _ _ _ s16 wr => ∃ j k : Nat, s16 = .int .i64 (j : Nat) ∧ j ≤ vs.length ∧ k ≤ 21 * j ∧ ClM O wr cb A st false G.length G kn nx col ro (fs + f + k) ∧ wr.ownsRow w3.heap.size 3 1 s4 ((vs.take j).filter bb).length (ints ((vs.take j).filter bb)) ∧ Else A.S w3 wr) (fun _ _ _ _ s _ => vs.length - (intOf s).toNat)
  case atStart => exact ⟨0, 0, rfl, Nat.zero_le _, Nat.le_refl _, by simpa using H3.out.2.2.2.2.2.2.2, World.ownsRow_nil _ _ _ _, Else.refl _ _⟩
  case round =>
    obtain ⟨j, k, rfl, hj, hk, hC, ho, hE⟩ := hrel
    obtain ⟨As, cs, rfl, _, _⟩ := Un.own_form ho
    have hml : ((vs.take j).filter bb).length ≤ j := Nat.le_trans (List.length_filter_le _ _) (by rw [List.length_take]; omega)
    have hjb : j ≤ 400000 := by have := H.out.2.2.2.2.2.2.2.2.2.2.2.1; omega
    have HT := Lib.hid (And.intro hC (And.intro ho (And.intro hE (And.intro hml hk))))
    obtain ⟨q, hq⟩ : ∃ q, ((vs.take j).filter bb).length = q := ⟨_, rfl⟩
    rw [hq]
    have HQ := Lib.hid hq
    clear hC ho hE hml hk hq
    by_cases hjl : j < vs.length
    · obtain ⟨v, hv⟩ : ∃ v, vs[j]? = some v := ⟨_, List.getElem?_eq_getElem hjl⟩
      obtain ⟨hvm, i, hvi, hil⟩ := vsort_var (G := G) (a := v) (by rw [H3.out.2.2.1]; exact List.mem_of_getElem? hv)
      have hwv := H.out.2.2.2.2.2.2.2.2.2.1.2 v hvm
      have f1 : decide ((j : Int) < (vs.length : Int)) = true := decide_eq_true (by omega)
      have f2 : decide (j < vs.length) = true := decide_eq_true hjl
      have hp0 := H3.out.1
      obtain ⟨bv, cvv, hsh, hbw, hbl⟩ := Un.own_shape hp0 (by omega)
      injection hsh with hA1 _ hcc1
      subst hA1; subst hcc1
      have hSlow : ∀ k, A.S k → k < w.heap.size := fun k hk => H.out.2.2.2.2.2.2.2.2.2.2.2.2 k (.inr (.inl hk))
      have h23 : w.heap.size + 2 ≤ w2.heap.size := by have h1 := H2.out.2.2.1.size; have h2 := H.out.2.2.2.2.2.2.2.2.1; omega
      have hvb : w2.heap.size ≤ bv := (hp0.lt bv rfl).1
      have hrowr := own_else hp0 HT.out.2.2.1 (fun k hk he => by
        have hk : some bv = some k := hk
        injection hk with hk
        have := hSlow k he
        omega)
      have z1 : wr.cell? ⟨bv, j, none⟩ = some (.int .i64 v) := (hrowr.cellAt j (by omega)).trans (by simp [ints, hv])
      have HPT := cpart_cl HT.out.1 (by have h1 := H.out.2.2.2.2.2.2.2.2.2.2.1; have h2 := H2.out.2.1; have h3 := HT.out.2.2.2.2; have h4 := H.out.2.2.2.2.2.2.2.2.2.2.2.1; omega) v hwv (fun z hz => by rw [hvi] at hz; cases hz; exact hil)
      rw [hvi] at HPT
      have HPT := Lib.hid HPT
      have HJL := Lib.hid (And.intro hjl (And.intro hv (And.intro hvi hil)))
      have HLW := Lib.hid (And.intro hSlow h23)
      clear hp0 hrowr hvb hbl hbw hv hvi hil hvm hwv hSlow h23
      go_wp2_with fail
      refine HPT.out.mono ?_
      clear HPT
      rintro x w4 ⟨k4, rfl, hk4, hC4, hE4⟩
      obtain ⟨r, hr⟩ : ∃ r, ro i = r := ⟨_, rfl⟩
      rw [hr]
      unfold ptV
      dsimp only [Option.map_some]
      obtain ⟨w5, hw5⟩ : ∃ w5, w4.alloc (.cells #[.pointer (some ⟨cb, 0, none⟩), .int .i64 (r : Nat)] 78) = w5 := ⟨_, rfl⟩
      have hb5 : Below w4.heap.size w4 w5 := by rw [← hw5]; exact (Below.refl _ _).alloc (Nat.le_refl _) _
      have hx5 : w5.heap[w4.heap.size]? = some (.cells #[.pointer (some ⟨cb, 0, none⟩), .int .i64 (r : Nat)] 78) := by rw [← hw5]; exact heap_alloc_new _ _
      have hE5 : Else A.S wr w5 := hE4.trans (Else.of_below hb5)
      have hE35 : Else A.S w3 w5 := HT.out.2.2.1.trans hE5
      have hC5 := hC4.below hb5
      have hc5 := (hE35.block _ (Array.getElem?_eq_some_iff.1 H3.out.2.2.2.2.2.1).1 (fun h => by have := HLW.out.1 _ h; omega)).trans H3.out.2.2.2.2.2.1
      have hm5 := H3.out.2.2.2.2.2.2.1.block (hE35.block _ H3.out.2.2.2.2.2.2.1.lt (fun h => by have := HLW.out.1 _ h; omega))
      have hrow5 := own_else HT.out.2.1 hE5 (fun k hk he => by have h1 := (HT.out.2.1.lt k hk).1; have h2 := HLW.out.1 k he; have h3 := HLW.out.2; have h4 := H3.out.2.1.size; omega)
      obtain ⟨b, hb⟩ := H2.out.2.2.2.2.2.1 v i HJL.out.2.2.1
      rw [hr] at hb
      have hedr := H2.out.2.2.2.2.2.2.2.2.1 _ _ hb
      have hbbv : bb v = !b := by
        rw [← H3.out.2.2.2.2.1]
        show (match gvar G v with | some i => (ed (ro i)).getD false | none => false) = !b
        rw [HJL.out.2.2.1]
        show (ed (ro i)).getD false = !b
        rw [hr, hedr]
        rfl
      have hrn : r < G.length := by rw [← hr]; exact (H.out.2.1.rt i HJL.out.2.2.2).1
      have hrw : (Lit.int .i64 (r : Nat)).wf = true := by have h := wrap64_wf (r : Nat); rwa [IntWalk.wrap64_in _ (by have := H.out.2.2.2.2.2.2.2.2.2.2.2.1; omega)] at h
      have EX : Hid (∀ V, Below w5.heap.size w5 V → V.cell? ⟨w.heap.size + 1, 0, none⟩ = some (.map (some w.heap.size)) ∧ V.cell? ⟨w4.heap.size, 0, none⟩ = some (.pointer (some ⟨cb, 0, none⟩)) ∧ V.cell? ⟨w4.heap.size, 1, none⟩ = some (.int .i64 (r : Nat)) ∧ (Instr.lookup 83 (.map (some w.heap.size)) (.int .i64 (r : Nat)) false).run Tryz.prog V = .ok (.bool (!b)) V) := Lib.hid fun V hV => by
        have h1 := (hV.block _ (Array.getElem?_eq_some_iff.1 hc5).1).trans hc5
        have h2 := (hV.block _ (Array.getElem?_eq_some_iff.1 hx5).1).trans hx5
        have hl := (hm5.below hV).look endsTy (r : Nat) hrw
        rw [endF_at, hedr] at hl
        exact ⟨cell_of_row V _ 0 _ _ (0, 0) h1, cell_of_row V _ 0 _ _ (0, 0) h2, cell_of_row V _ 1 _ _ (0, 0) h2, hl⟩
      have HID : Hid (∀ V, Below w5.heap.size w5 V → Calls Tryz.prog 40 #[.agg #[.pointer (some ⟨cb, 0, none⟩), .int .i64 (r : Nat)]] V fun e w' => e = .returned (.int .i64 (r : Nat)) ∧ Below V.heap.size V w') := Lib.hid fun V hV => pid_cl (hC5.below hV) r
      have H5 := Lib.hid (And.intro hk4 (And.intro hC5 (And.intro hE5 (And.intro hE35 (And.intro hrow5 hbbv)))))
      have HW5 := Lib.hid hw5
      clear hk4 hC4 hE4 hr hw5 hb5 hx5 hE5 hE35 hC5 hc5 hm5 hrow5 hb hedr hbbv hrn hrw
      go_wp2_with fail
      rw [HW5.out]
      have hS : Below w5.heap.size w5 w5.drew := (Below.refl _ _).drew
      refine wp_region_held (S := (fun W => Below w5.heap.size w5 W)) (by kernel_rfl) ?_
      change wpAnyH _ _ _ _ _ 7 (List.replicate 7 false).toArray _ w5.drew
      simp only [List.replicate_succ, List.replicate_zero]
      refine any_take (i := 0) (some 26) (.bool true) rfl (by rfl) (by kernel_rfl) (by kernel_rfl) (by kernel_rfl) (fun _ _ _ h => h) (Or.inl ⟨by kernel_rfl, (fun W hw => by clear hw; go_simp)⟩) hS ?_
      simp only [Act.put, List.setIfInBounds_toArray, List.set_cons_zero, List.set_cons_succ]
      refine any_take (i := 1) (some 27) (.bool true) rfl (by rfl) (by kernel_rfl) (by kernel_rfl) (by kernel_rfl) (fun _ _ _ h => h) (Or.inl ⟨by kernel_rfl, (fun W hw => by clear hw; go_simp)⟩) hS ?_
      simp only [Act.put, List.setIfInBounds_toArray, List.set_cons_zero, List.set_cons_succ]
      refine any_take (i := 2) (some 28) (.map (some w.heap.size)) rfl (by rfl) (by kernel_rfl) (by kernel_rfl) (by kernel_rfl) (fun _ _ _ h => h) (Or.inl ⟨by kernel_rfl, (fun W hw => by obtain ⟨n0_, n1_, n2_, n3_⟩ := EX.out W hw; clear hw; go_simp)⟩) hS ?_
      simp only [Act.put, List.setIfInBounds_toArray, List.set_cons_zero, List.set_cons_succ]
      refine any_take (i := 3) (some 29) (.agg #[.pointer (some ⟨cb, 0, none⟩), .int .i64 (r : Nat)]) rfl (by rfl) (by kernel_rfl) (by kernel_rfl) (by kernel_rfl) (fun _ _ _ h => h) (Or.inl ⟨by kernel_rfl, (fun W hw => by obtain ⟨n0_, n1_, n2_, n3_⟩ := EX.out W hw; clear hw; go_simp)⟩) hS ?_
      simp only [Act.put, List.setIfInBounds_toArray, List.set_cons_zero, List.set_cons_succ]
      refine wpAnyH_all (rs := [4]) (by kernel_rfl) (by simp) fun q' hq' => ?_
      obtain rfl : q' = 4 := by simpa using hq'
      refine ops_call (d := some 30) rfl (by rfl) (by kernel_rfl) (by go_simp) ((HID.out _ hS).mono ?_)
      rintro y w6 ⟨rfl, hb6⟩
      have hS6 : Below w5.heap.size w5 w6 := hS.trans (hb6.mono hS.size)
      refine ⟨_, rfl, hS6, ?_⟩
      simp only [Act.put, List.setIfInBounds_toArray, List.set_cons_zero, List.set_cons_succ]
      refine any_take (i := 5) (some 31) (.bool (!b)) rfl (by rfl) (by kernel_rfl) (by kernel_rfl) (by kernel_rfl) (fun _ _ _ h => h) (Or.inl ⟨by kernel_rfl, (fun W hw => by obtain ⟨n0_, n1_, n2_, n3_⟩ := EX.out W hw; clear hw; go_simp)⟩) hS6 ?_
      simp only [Act.put, List.setIfInBounds_toArray, List.set_cons_zero, List.set_cons_succ]
      refine any_take (i := 6) (some 32) (.bool (!b)) rfl (by rfl) (by kernel_rfl) (by kernel_rfl) (by kernel_rfl) (fun _ _ _ h => h) (Or.inl ⟨by kernel_rfl, (fun W hw => by clear hw; go_simp)⟩) hS6 ?_
      simp only [Act.put, List.setIfInBounds_toArray, List.set_cons_zero, List.set_cons_succ]
      refine wpAnyH_done (by kernel_rfl) ?_ _
      have hC6 := H5.out.2.1.below hS6
      have hE6 : Else A.S w3 w6 := H5.out.2.2.2.1.trans (Else.of_below hS6)
      have hrow6 := own_below H5.out.2.2.2.2.1 hS6
      have H6 := Lib.hid (And.intro hC6 (And.intro hE6 hrow6))
      have hz : w3.heap.size ≤ w6.heap.size := hE6.size
      clear hC6 hE6 hrow6 hS hS6 hb6 EX HID z1
      have key : (vs.take (j + 1)).filter bb = (vs.take j).filter bb ++ if !b then [v] else [] := by
        rw [List.take_add_one, HJL.out.2.1, List.filter_append]
        congr 1
        simp only [Option.toList_some, List.filter_cons, List.filter_nil, H5.out.2.2.2.2.2]
      have e2 : fs + f + ((k + k4 : Nat) : Int) = fs + f + (k : Nat) + (k4 : Nat) := by push_cast; omega
      have HK := Lib.hid (And.intro key e2)
      clear key e2
      cases b with
      | false =>
        have hrow6 := H6.out.2.2
        obtain ⟨v7, w7, hrun, ho7, hb7, -, hg7, hat7⟩ := app_int _ w3.heap.size (.slice As ((vs.take j).filter bb).length cs) ((vs.take j).filter bb) (own_below hrow6 ((Below.refl _ _).alloc (Nat.le_refl _) (.cells #[.int .i64 v] 3))) (.slice (some ⟨w6.heap.size, 0, none⟩) 1 1) [v] (rd_new w6 [.int .i64 v] _ 1 1 rfl (by unfold maxLen; omega)) (by have := HT.out.2.2.2.1; simp; omega) (by simp; omega)
        rw [HQ.out] at hrun
        have hsh : ∃ g c, v7 = .slice (some ⟨g, 0, none⟩) (q + 1) c := by
          obtain ⟨g, c, h, _⟩ := Un.own_shape ho7 (by simp)
          rw [List.length_append, HQ.out] at h
          exact ⟨g, c, h⟩
        obtain ⟨g7, c7, rfl⟩ := hsh
        have hE7 : Else (fun k => w3.heap.size ≤ k) w6 w7 := (Else.alloc _ _ _).trans (Else.grown hg7 fun k hk => (hrow6.lt k hk).1)
        have hC7 := H6.out.1.aside hE7 fun k hk h => by have h1 := H.out.2.2.2.2.2.2.2.2.2.2.2.2 k hk; have h2 := HLW.out.2; have h3 := H3.out.2.1.size; omega
        have hE37 : Else A.S w3 w7 := ((H6.out.2.1.mono fun k hk => (.inl hk : A.S k ∨ w3.heap.size ≤ k)).trans (hE7.mono fun k hk => .inr hk)).old fun k hk => hk
        have hrun : (app_ #[30, 30] 30 #[.slice As q cs, .slice (some ⟨w6.heap.size, 0, none⟩) 1 1]).run Tryz.prog (w6.alloc (.cells #[.int .i64 v] 3)) = .ok (.slice (some ⟨g7, 0, none⟩) (q + 1) c7) w7 := hrun
        have H7 := Lib.hid (And.intro hC7 (And.intro hE37 ho7))
        clear hrow6 ho7 hb7 hg7 hat7 hE7 hC7 hE37
        go_wp2_with fail
        go_roundw
        case rel =>
          refine ⟨j + 1, k + k4, by go_num, HJL.out.1, by have h1 := HT.out.2.2.2.2; have h2 := H5.out.1; have h3 := H2.out.2.2.2.2.2.2.2.2.2; omega, ?_, ?_, H7.out.2.1⟩
          · rw [HK.out.2]
            exact H7.out.1
          · rw [HK.out.1]
            have h := H7.out.2.2
            rw [List.length_append, HQ.out] at h
            simp only [Bool.not_false, if_true, List.length_append, HQ.out]
            exact h
        case measure => have := HJL.out.1; simp [intOf]; omega
      | true =>
        go_wp2_with fail
        go_roundw
        case rel =>
          refine ⟨j + 1, k + k4, by go_num, HJL.out.1, by have h1 := HT.out.2.2.2.2; have h2 := H5.out.1; have h3 := H2.out.2.2.2.2.2.2.2.2.2; omega, ?_, ?_, H6.out.2.1⟩
          · rw [HK.out.2]
            exact H6.out.1
          · rw [HK.out.1]
            have h := H6.out.2.2
            rw [HQ.out] at h
            simp only [Bool.not_true, Bool.false_eq_true, if_false, List.append_nil, HQ.out]
            exact h
        case measure => have := HJL.out.1; simp [intOf]; omega
    · have f1 : decide ((j : Int) < (vs.length : Int)) = false := decide_eq_false (by omega)
      have f2 : decide (j < vs.length) = false := decide_eq_false hjl
      have hje : j = vs.length := by omega
      have HJE := Lib.hid hje
      clear hje
      go_wp2_with fail
      obtain ⟨hC, hJ, hR, hB, hm, h2, h3, hb1, hs1, hgn, hfs, hG, hlow⟩ := H.out
      obtain ⟨hC9, ho9, hE9, hml9, hk9⟩ := HT.out
      have hEa : Else A.S w w3 := (((Else.of_below hb1).trans H2.out.2.2.1).trans (Else.of_below (H3.out.2.1.mono (Nat.le_refl _)))).old fun k hk => by rcases hk with hk | hk; exact .inl hk; exact .inr (by omega)
      have hEb : Else A.S w wr := hEa.trans hE9
      have e2 : fs + ((f + k : Nat) : Int) = fs + f + (k : Nat) := by push_cast; omega
      refine bodyPost_ret (results_tmp rfl _ _ _) rfl ⟨bb, _, f + k, rfl, ?_, fun v i hvi => ?_, by have h1 := H2.out.2.1; have h2 := H3.out.2.2.2.1; omega, CsM.turned (by rw [e2]; exact hC9) hEb hJ hR hB hm h2 h3, hEb.mono fun k hk => hC.own k (.inr (.inl hk))⟩
      · rw [H3.out.2.2.1]
        rw [HJE.out, List.take_length] at ho9
        have hq := HQ.out
        rw [HJE.out, List.take_length] at hq
        rw [hq] at ho9 ⊢
        exact own_mono ho9 hEa.size
      · obtain ⟨b, hb⟩ := H2.out.2.2.2.2.2.1 v i hvi
        have hedr := H2.out.2.2.2.2.2.2.2.2.1 _ _ hb
        have hbbv : bb v = !b := by
          rw [← H3.out.2.2.2.2.1]
          show (match gvar G v with | some i => (ed (ro i)).getD false | none => false) = !b
          rw [hvi]
          show (ed (ro i)).getD false = !b
          rw [hedr]
          rfl
        have hk := (H2.out.2.2.2.2.1.known _ _ hb).1
        rw [hbbv, nx_roots hJ h3 (gvar_lt hvi)]
        cases b with
        | true => exact ⟨(fun h => by cases h), (fun h => absurd (H2.out.2.2.2.1.tt _ hk) h)⟩
        | false => exact ⟨fun _ => H2.out.2.2.2.1.ff _ hk fun s hs => by simp at hs, fun _ => rfl⟩
end CyIs
end Go.Proofs.YtojgiienohpaiaaGreat
namespace Go.Proofs.YtojgiienohpaiaaGreat
open Go.RowKit Go.Shelf
open Un (Else StM rowI UFo own_else dg swp wp_world paint cnt Rings)
set_option maxRecDepth 100000
theorem no_acc {α : Type} {r : α → α → Prop} {a : α} (h : r a a) : ¬ Acc r a := fun ha => by
  induction ha with
  | intro x _ ih => exact ih x h h
def cyG : List Gn := [(1, 0, 1, []), (2, 0, 1, []), (4, 0, 3, [0, 1])]
theorem cy_ex : eqG [] 1 0 .nil 4 0 (exP 1 0 2 0) = cyG ∧ eqE [] [] 1 0 .nil 4 0 (exP 1 0 2 0) = [(0, 2)] := by
  simp only [eqG, eqE, exP, gadd1_eq, gadd_cons, gadd_nil]
  exact ⟨rfl, rfl⟩
theorem cy_m : mdl cyG [(0, 2)] [0, 1, 0] = true := by decide
theorem cy_gn : GN cyG := ⟨by decide, by decide⟩
theorem cy_gl : GL cyG := by
  intro i p hp u hu
  match i with
  | 0 => simp [cyG] at hp; subst hp; simp at hu
  | 1 => simp [cyG] at hp; subst hp; simp at hu
  | 2 => simp [cyG] at hp; subst hp; simp at hu; omega
  | i + 3 => simp [cyG] at hp
theorem cy_no : ¬ Acc (Nx cyG [(0, 2)]) 0 := no_acc ⟨2, (4, 0, 3, [0, 1]), .eq (by simp), rfl, by decide, by simp⟩
theorem cy_var : gvar cyG 0 = some 0 := by decide
theorem cy_vs : vsort cyG = [0] := by decide
theorem nil_gn : GN [] := ⟨by simp [names], fun n hn => by simp [names] at hn⟩
theorem nil_gl : GL [] := fun i p hp => by simp at hp
theorem nil_fin : FinC [] [] := fun v i h => by simp [gvar] at h
set_option maxHeartbeats 4000000 in
theorem awake13 (w : World) : Calls Tryz.prog 6 #[] w fun e w' => e = .returned (.bool true) ∧ Below w.heap.size w w' := by
  go_enter Tryz.func6, Tryz.ntmps6
  go_wp2_with fail
  refine (new_cs w).mono ?_
  rintro e w1 ⟨cb, rfl, hC1, hb1⟩
  obtain ⟨O1, hO1, hC1⟩ := hC1.tight
  have H1 := Lib.hid (And.intro hO1 (And.intro hC1 hb1))
  clear hO1 hC1 hb1
  go_wp2_with fail
  refine (var_any 0 _).mono ?_
  rintro e w2 ⟨rfl, hb2⟩
  dsimp only [tyVal]
  have H2 := Lib.hid hb2
  clear hb2
  go_wp2_with fail
  refine (var_any 0 _).mono ?_
  rintro e w3 ⟨rfl, hb3⟩
  dsimp only [tyVal]
  have H3 := Lib.hid (H2.out.trans (hb3.mono H2.out.size))
  clear hb3
  obtain ⟨w4, hw4⟩ : ∃ w4, w3.alloc (.cells #[.int .i64 1, .int .i64 0, .slice none 0 0, .int .i64 2, .int .i64 0, .slice none 0 0] 47) = w4 := ⟨_, rfl⟩
  have hx4 : w4.heap[w3.heap.size]? = some (.cells #[.int .i64 1, .int .i64 0, .slice none 0 0, .int .i64 2, .int .i64 0, .slice none 0 0] 47) := by rw [← hw4]; exact heap_alloc_new _ _
  have hb4 : Below w3.heap.size w3 w4 := by rw [← hw4]; exact (Below.refl _ _).alloc (Nat.le_refl _) _
  have har := arrow_pair w4 w3.heap.size 2 1 0 2 0 (none, 0, 0) (none, 0, 0) .nil .nil (Array.getElem?_eq_some_iff.1 hx4).1 (Nat.le_refl _) (by unfold maxLen; omega) (cell_of_row _ _ 0 _ _ (0, 0) hx4) (cell_of_row _ _ 1 _ _ (0, 0) hx4) (cell_of_row _ _ 2 _ _ (0, 0) hx4) (cell_of_row _ _ 3 _ _ (0, 0) hx4) (cell_of_row _ _ 4 _ _ (0, 0) hx4) (cell_of_row _ _ 5 _ _ (0, 0) hx4) (no_parts _ _) (no_parts _ _) (by simp [Fo.size])
  have HAR := Lib.hid har
  have H4 := Lib.hid (H3.out.trans (hb4.mono H3.out.size))
  have HW4 := Lib.hid hw4
  clear har hx4 hb4 hw4
  go_wp2_with fail
  rw [HW4.out]
  refine HAR.out.mono ?_
  clear HAR
  rintro e w5 ⟨⟨u1, u2, u3⟩, rfl, hb5, hF5⟩
  dsimp only [tyVal, slv]
  have hb15 : Below w1.heap.size w1 w5 := H4.out.trans (hb5.mono H4.out.size)
  have hC5 := H1.out.2.1.keep (T := fun j => w1.heap.size ≤ j) (Else.of_below hb15) fun j hj => by have := (H1.out.1 j hj).2; omega
  have HEQ := equate_ok hC5 1 0 4 0 (none, 0, 0) (u1, u2, u3) .nil (exP 1 0 2 0) (TyLat.var 0 (by omega) (by decide)) (TyLat.fresh hF5 (fun j hj => by have := (H1.out.1 j hj).2; have := H4.out.size; omega) ⟨rfl, ⟨rfl, trivial, rfl, trivial, trivial⟩, trivial⟩ ⟨by decide, ⟨by decide, trivial, by decide, trivial, trivial⟩, trivial⟩) (by decide) (by omega) (by omega)
  rw [cy_ex.1, cy_ex.2] at HEQ
  dsimp only [tyVal, slv] at HEQ
  have HEQH := Lib.hid HEQ
  have H5 := Lib.hid hb15
  clear HEQ hC5 hF5 hb5 hb15
  go_wp2_with fail
  refine HEQH.out.mono ?_
  clear HEQH
  rintro e w8 ⟨hE8, st8, j8, hs1, hs2, h⟩
  rcases h with ⟨_, hc, _⟩ | ⟨rfl, _, fs8, m8, hC8, hf1, hf2, hj8⟩
  · exact absurd hc (mdl_no cy_m)
  have hd8 : dg cyG.length ≤ 21 := Un.dg_le (by decide)
  have hj9 : j8 ≤ 1000 := by have e : cyG.length = 3 := rfl; rw [e] at hj8; simp only [List.length_nil] at hj8; omega
  have hbn := bnd hd8 hj9
  have hb08 : Below w.heap.size w w8 := (H1.out.2.2.trans (H5.out.mono H1.out.2.2.size)).trans (hE8.below (fun j hj => (H1.out.1 j hj).1) (by have := H5.out.size; have := H1.out.2.2.size; omega))
  have hO8 : ∀ k, (O1 k ∨ w5.heap.size ≤ k) → w.heap.size ≤ k := fun k hk => by
    have := H5.out.size
    have := H1.out.2.2.size
    rcases hk with hk | hk
    · exact (H1.out.1 k hk).1
    · omega
  have HFI := Lib.hid (finite_cs hC8 (by omega) (by decide) cy_gn cy_gl)
  have H8 := Lib.hid (And.intro hb08 (And.intro hO8 (show 0 ≤ fs8 ∧ fs8 ≤ 1000000 from by omega)))
  clear hE8 hs1 hs2 hC8 hf1 hf2 hj8 hd8 hj9 hbn hb08 hO8
  go_wp2_with fail
  refine HFI.out.mono ?_
  clear HFI
  rintro e w9 ⟨b9, k9, rfl, hb9, hk9, hC9, hE9⟩
  obtain rfl : b9 = false := by
    cases b9 with
    | false => rfl
    | true => exact absurd (hb9.1 rfl 0 0 cy_var) cy_no
  have e3 : cyG.length = 3 := rfl
  have hb09 : Below w.heap.size w w9 := H8.out.1.trans (hE9.below H8.out.2.1 H8.out.1.size)
  have HCY := Lib.hid (cyclic_cs hC9 (by have := H8.out.2.2; rw [e3] at hk9; omega) (by decide) cy_gn)
  have H9 := Lib.hid hb09
  clear hb9 hk9 hC9 hE9 hb09 e3
  go_wp2_with fail
  refine HCY.out.mono ?_
  clear HCY
  rintro e w10 ⟨bb, v10, k10, rfl, hr10, hbb, hk10, hC10, hE10⟩
  have hb0 : bb 0 = true := (hbb 0 0 cy_var).2 cy_no
  have hfl : (vsort cyG).filter bb = [0] := by rw [cy_vs]; simp [hb0]
  rw [hfl] at hr10
  have hb010 : Below w.heap.size w w10 := H9.out.trans (hE10.below H8.out.2.1 H9.out.size)
  obtain ⟨A10, c10, rfl, _, _⟩ := Un.own_form hr10
  have hR10 : Rd (w10.alloc (.cells #[.int .i64 0] 3)) 1 (.slice A10 1 c10) ([0] : List Int).length (ints [0]) := (Rd.of_own hr10).below ((Below.refl _ _).alloc (Nat.le_refl _) _)
  have HIN := Lib.hid (rints_any [0] [0] (.slice A10 1 c10) (.slice (some ⟨w10.heap.size, 0, none⟩) 1 1) (w10.alloc (.cells #[.int .i64 0] 3)) hR10 (rd_new w10 [.int .i64 0] _ 1 1 rfl (by unfold maxLen; omega)) (by simp) (by simp))
  have H10 := Lib.hid (show Below w.heap.size w (w10.alloc (.cells #[.int .i64 0] 3)) from hb010.alloc hb010.size _)
  clear hr10 hbb hk10 hC10 hE10 hb0 hfl hb010 hR10
  simp only [List.length_singleton]
  go_wp2_with fail
  refine HIN.out.mono ?_
  clear HIN
  rintro e w11 ⟨rfl, hb11⟩
  have H11 := Lib.hid (H10.out.trans (hb11.mono H10.out.size))
  clear hb11
  go_wp2_with fail
  refine (new_cs w11).mono ?_
  rintro e w12 ⟨cb2, rfl, hC12, hb12⟩
  have HF2 := Lib.hid (finite_cs hC12 (by omega) (by decide) nil_gn nil_gl)
  have H12 := Lib.hid (H11.out.trans (hb12.mono H11.out.size))
  clear hC12
  go_wp2_with fail
  refine HF2.out.mono ?_
  clear HF2
  rintro e w13 ⟨b13, k13, rfl, hb13, _, _, hE13⟩
  obtain rfl : b13 = true := hb13.2 nil_fin
  have H13 := Lib.hid (H12.out.trans (hE13.below (B := w.heap.size) (fun k hk => Nat.le_trans H11.out.size hk) H12.out.size))
  clear hb13 hE13 hb12
  go_wp2_with fail
  exact bodyPost_ret (results_tmp rfl _ _ _) rfl ⟨rfl, H13.out⟩
end Go.Proofs.YtojgiienohpaiaaGreat
namespace Go.Proofs.YtojgiienohpaiaaGreat
open Go.RowKit
open Un (Else)
set_option maxRecDepth 100000
end Go.Proofs.YtojgiienohpaiaaGreat
namespace Go.Proofs.YtojgiienohpaiaaGreat
open Go.RowKit
theorem i64_wf {n : Int} (h : (Lit.int .i64 n).wf = true) : (Lit.int .i64 n).wf = true := h
end Go.Proofs.YtojgiienohpaiaaGreat
namespace Go.Proofs.YtojgiienohpaiaaGreat
open Go.RowKit Go.Shelf
open Un (Else StM rowI UFo own_else dg swp wp_world paint cnt Rings)
set_option maxRecDepth 100000
section CyKs
variable {w : World} {p : Option Addr} {v : Int}
end CyKs
end Go.Proofs.YtojgiienohpaiaaGreat
