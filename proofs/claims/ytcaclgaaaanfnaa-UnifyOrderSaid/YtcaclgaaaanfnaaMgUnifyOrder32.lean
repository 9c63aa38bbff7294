/- Texts of one proof, one behind the other. -/
import Derived.Test.YtcaclgaaaanfnaaMgUnifyOrder31
import Derived.Test.YtcaclgaaaanfnaaShSo
import Derived.Sort.Row
import Derived.Sort.Grow
/- unify: the variables of a variable's class. -/
namespace Go.Proofs.Ytcaclgaaaanfnaa
open Go.RowKit Go.Sort
open Un (Else dg cnt own_else Rings Ring Pth)
set_option maxRecDepth 100000
theorem sort_ints (w : World) (B g cap : Nat) (z : List Int) (hown : w.ownsRow B 3 1 (.slice (some ⟨g, 0, none⟩) z.length cap) z.length (ints z)) (hl : z.length ≤ 1048576) :
    Calls Try.prog 64 #[.slice (some ⟨g, 0, none⟩) z.length cap] w fun e w' => e = .returned (.tuple #[]) ∧ ∃ z' : List Int, z'.Perm z ∧ z'.Pairwise (· ≤ ·) ∧ Rd w' 1 (.slice (some ⟨g, 0, none⟩) z.length cap) z.length (ints z') ∧ Else (fun k => k = g) w w' := by
  obtain ⟨hgl, hcap, hcm⟩ : g < w.heap.size ∧ z.length ≤ cap ∧ cap ≤ maxLen := by
    rcases hown.2 with ⟨h, _⟩ | ⟨g', cap', cur, hv, _, hh, h1, h2, _⟩
    · cases h
    · injection hv with hv _ hc
      injection hv with hv
      injection hv with hv
      subst hv; subst hc
      exact ⟨(Array.getElem?_eq_some_iff.1 hh).1, h1, h2⟩
  have hcell : ∀ j, (hj : j < z.length) → w.cell? ⟨g, j, none⟩ = some (.int .i64 z[j]) := by
    intro j hj
    rw [hown.cellAt j (by omega)]
    simp [ints, hj]
  have hH : Holds (Value.int .i64) w g 0 z.toArray := by
    intro j hj
    have hj' : j < z.length := by simpa using hj
    refine ⟨?_, ?_⟩
    · rw [Nat.zero_add, hcell j hj']
      congr 2
      rw [getElem!_pos z.toArray j hj]
      simp
    · rw [Nat.zero_add]; exact hown.frozenAt j
  have hc := Try.slices_Sort_int g 0 cap z w hH hgl (by omega)
  refine hc.mono ?_
  rintro e w' ⟨rfl, n, os, rfl⟩
  have hperm : (z.mergeSort fun x y => decide (x ≤ y)).Perm z := List.mergeSort_perm _ _
  have hpw : (z.mergeSort fun x y => decide (x ≤ y)).Pairwise (fun a b => decide (a ≤ b) = true) := List.pairwise_mergeSort (fun a b c h1 h2 => by simp at h1 h2 ⊢; omega) (fun a b => by simp; omega) _
  generalize (z.mergeSort fun x y => decide (x ≤ y)) = z' at *
  have hz'l : z'.length = z.length := hperm.length_eq
  refine ⟨rfl, z', hperm, hpw.imp fun h => by simpa using h, ?_, ?_⟩
  · refine ⟨by rw [ints_len, hz'l]; omega, .inr ⟨g, 0, cap, rfl, hcap, hcm, by simp [grow]; omega, fun j u hu => ?_⟩⟩
    have hj : j < z'.length := by have := (List.getElem?_eq_some_iff.1 hu).1; rwa [ints_len] at this
    have hcp := cell?_putRow (Value.int .i64) (Sort.ahead w n) g 0 z.toArray z'.toArray (holds_ahead _ _ _ _ _ _ hH) (by simp; omega) j (by simpa using hj)
    rw [Nat.zero_add] at hcp ⊢
    have hgrow : (grow (putRow (Value.int .i64) (Sort.ahead w n) g 0 z'.toArray) os).cell? ⟨g, j, none⟩ = (putRow (Value.int .i64) (Sort.ahead w n) g 0 z'.toArray).cell? ⟨g, j, none⟩ := World.cell?_of_block (heap_grow_old _ _ (by simp; omega))
    rw [hgrow, hcp, ← hu]
    rw [getElem!_pos z'.toArray j (by simpa using hj)]
    simp [ints, hj]
  · refine ⟨rfl, rfl, rfl, by simp [grow], fun k hk hne => ?_⟩
    rw [heap_grow_old _ _ (by simp; omega)]
    show ((Sort.ahead w n).heap.modify g _)[k]? = _
    rw [Array.getElem?_modify, if_neg (by simpa using Ne.symm hne)]
    rfl
/-- An int put behind a row. -/
theorem app_io (B : Nat) (w : World) (hB : B ≤ w.heap.size) (v : Value) (z : List Int) (hown : w.ownsRow B 3 1 v z.length (ints z)) (x : Int) (hn : z.length ≤ 10000000) :
    ∃ g cp w1, (app_ #[43, 43] 43 #[v, .slice (some ⟨w.heap.size, 0, none⟩) 1 1]).run Try.prog (w.alloc (.cells #[.int .i64 x] 3)) = .ok (.slice (some ⟨g, 0, none⟩) (z.length + 1) cp) w1 ∧
      w1.ownsRow B 3 1 (.slice (some ⟨g, 0, none⟩) (z.length + 1) cp) (z ++ [x]).length (ints (z ++ [x])) ∧ Below B w w1 := by
  obtain ⟨i0, hi0, hz0, hz1, hz2⟩ := Un.info_parts Un.intInfo
  have own1 := hown.alloc (.cells #[.int .i64 x] 3)
  have rd1 : Rd (w.alloc (.cells #[.int .i64 x] 3)) 1 (.slice (some ⟨w.heap.size, 0, none⟩) 1 1) 1 [.int .i64 x] := rd_new w [.int .i64 x] 3 1 1 rfl (by unfold maxLen; omega)
  obtain ⟨v', w1, hrun, hown1, hg1, _⟩ := run_append_rd (P := Try.prog) _ B 43 43 3 i0 _ 1 8 Try.underlying43 hi0 hz0 hz1 hz2 rfl (by omega) v _ _ own1 _ 1 _ rd1 (by simp [Value.oneCell']) (by unfold maxLen; omega) (by omega) (by rw [World.size_alloc]; omega)
  obtain ⟨g, cp, rfl, _, _⟩ := Un.own_shape hown1 (by omega)
  refine ⟨g, cp, w1, hrun, ?_, ((Below.refl B w).alloc hB _).grown hg1 (by rw [World.size_alloc]; omega) fun k hk => (hown.lt k hk).1⟩
  rw [List.length_append]
  have e : ints (z ++ [x]) = ints z ++ [.int .i64 x] := by simp [ints]
  rw [e]
  exact hown1
attribute [local go_sem] Oper.semAt_some
attribute [local go_sem ↓] builtin_app
/-- Numbers of nodes, by name. -/
def nmL (G : List Gn) (L : List Nat) : List Int := L.map (nmG G)
theorem names_at {G : List Gn} {a : Int} (h : a ∈ names G) : ∃ i p, G[i]? = some p ∧ p.1 = 1 ∧ p.2.1 = a ∧ gvar G a = some i := by
  have h2 := (gvar_names G a).2 h
  obtain ⟨i, hi⟩ := Option.isSome_iff_exists.1 h2
  obtain ⟨p, hp, p1, p2⟩ := gvar_at hi
  exact ⟨i, p, hp, p1, p2, hi⟩
/-- A variable's only node. -/
theorem gvar_node {G : List Gn} (hg : GN G) {i : Nat} {p : Gn} (hp : G[i]? = some p) (p1 : p.1 = 1) : gvar G p.2.1 = some i := by
  induction G generalizing i with
  | nil => simp at hp
  | cons x G ih =>
    have hn : names (x :: G) = (if x.1 = 1 then [x.2.1] else []) ++ names G := by
      unfold names
      by_cases h : x.1 = 1 <;> simp [h]
    have hg' : GN G := by
      refine ⟨?_, fun n hn' => hg.2 n (by rw [hn]; exact List.mem_append_right _ hn')⟩
      have := hg.1
      rw [hn] at this
      exact (List.nodup_append.1 this).2.1
    cases i with
    | zero =>
      simp only [List.getElem?_cons_zero, Option.some.injEq] at hp
      subst hp
      simp [gvar, p1]
    | succ i =>
      simp only [List.getElem?_cons_succ] at hp
      have hm := ih hg' hp
      simp only [gvar]
      split
      · rename_i hx
        exfalso
        have hmem : p.2.1 ∈ names G := (gvar_names G _).1 (by rw [hm]; rfl)
        have := hg.1
        rw [hn, if_pos hx.1] at this
        exact (List.nodup_append.1 this).2.2 x.2.1 (by simp) p.2.1 hmem hx.2
      · rw [hm]
        rfl
section
variable {O : Nat → Prop} {w : World} {cb m : Nat} {G : List Gn} {E : List (Nat × Nat)} {st fs : Int}
/-- What the variables of a variable's class are. -/
def ClassIs (G : List Gn) (E : List (Nat × Nat)) (v : Int) (ys : List Int) : Prop := ys.Nodup ∧ ys.Pairwise (· ≤ ·) ∧ ∀ a, a ∈ ys ↔ SameIs G E v a
theorem ClassIs.uniq {G H : List Gn} {E F : List (Nat × Nat)} {v : Int} {ys zs : List Int} (h : ClassIs G E v ys) (k : ClassIs H F v zs) (he : ∀ a, SameIs G E v a ↔ SameIs H F v a) : ys = zs := by
  have hp : ys.Perm zs := (List.perm_ext_iff_of_nodup h.1 k.1).2 fun a => by rw [h.2.2, k.2.2, he]
  exact List.Perm.eq_of_pairwise (le := fun a b => a ≤ b) (fun a b _ _ h1 h2 => Int.le_antisymm h1 h2) h.2.1 k.2.1 hp
theorem nodup_map_on {f : Nat → Int} {L : List Nat} (hf : ∀ x, x ∈ L → ∀ y, y ∈ L → f x = f y → x = y) (hn : L.Nodup) : (L.map f).Nodup := by
  induction L with
  | nil => exact List.nodup_nil
  | cons a L ih =>
    rw [List.nodup_cons] at hn
    rw [List.map_cons, List.nodup_cons]
    refine ⟨fun h => ?_, ih (fun x hx y hy => hf x (List.mem_cons_of_mem _ hx) y (List.mem_cons_of_mem _ hy)) hn.2⟩
    obtain ⟨b, hb, e⟩ := List.mem_map.1 h
    have := hf b (List.mem_cons_of_mem _ hb) a List.mem_cons_self e
    subst this
    exact hn.1 hb
set_option maxHeartbeats 4000000 in
theorem class_cs (h : CsM O w cb G E st fs m) (hl : G.length ≤ 500000) (hg : GN G) (v : Int) (hv : (Lit.int .i64 v).wf = true) :
    Calls Try.prog 33 #[.pointer (some ⟨cb, 0, none⟩), .int .i64 v] w fun e w' => ∃ (v' : Value) (ys : List Int), e = .returned v' ∧ Rd w' 1 v' ys.length (ints ys) ∧ ClassIs G E v ys ∧ ys.length ≤ G.length ∧ Below w.heap.size w w' := by
  obtain ⟨⟨A, kn, nx, col, ro, hC, hJ, hR, _⟩, _⟩ := h
  obtain ⟨hl0, _, _, _, c2, _, c7⟩ := hC.cells
  have HV := node_cl hC v hv
  obtain ⟨An, cn, hN, _, _⟩ := Un.own_form hC.nr
  rw [hN] at c7
  have HC := Lib.hid (And.intro hC (And.intro hJ hN))
  clear hC hJ hN
  cases hgv : gvar G v with
  | none =>
    rw [hgv] at HV
    have HVH := Lib.hid HV
    clear HV
    go_enter Try.func33, Try.ntmps33
    go_wp2_with fail
    refine HVH.out.mono ?_
    rintro e w2 ⟨rfl, hb⟩
    have HB := Lib.hid hb
    clear hb HVH
    go_wp2_with fail
    refine bodyPost_ret (results_tmp rfl _ _ _) rfl ⟨.slice none 0 0, [], rfl, ?_, ⟨List.nodup_nil, List.Pairwise.nil, fun a => ?_⟩, by simp, HB.out⟩
    · exact Rd.of_own (base := 0) (e := 3) (World.ownsRow_nil _ _ _ _)
    · simp only [List.not_mem_nil, false_iff]
      rintro ⟨i, j, h1, _⟩
      rw [hgv] at h1
      cases h1
  | some i =>
    rw [hgv] at HV
    have hi := gvar_lt hgv
    obtain ⟨L, hL⟩ := hR i hi
    obtain ⟨M, hLM, hpth⟩ := hL.next
    obtain ⟨_, _, hnd, hmem⟩ := hL
    rw [hLM] at hnd hmem
    obtain ⟨pv, hpv, pv1, pv2⟩ := gvar_at hgv
    have hvi : isV G i = true := isV_of ⟨pv, hpv, pv1⟩
    have hML : (i :: M).length ≤ G.length := by
      have hp : (i :: M).Perm ((List.range G.length).filter fun k => vc G col k == vc G col i) := by
        refine (List.perm_ext_iff_of_nodup hnd (List.Pairwise.filter _ List.nodup_range)).2 fun a => ?_
        rw [hmem, List.mem_filter, List.mem_range, beq_iff_eq]
      rw [hp.length_eq]
      have := List.length_filter_le (fun k => vc G col k == vc G col i) (List.range G.length)
      simpa using this
    have hvar : ∀ j ∈ (i :: M), ∃ p, G[j]? = some p ∧ p.1 = 1 := fun j hj => by
      rcases (vc_iff j i).1 ((hmem j).1 hj).2 with rfl | ⟨h1, _, _⟩
      · exact ⟨pv, hpv, pv1⟩
      · exact of_isV h1
    have hnr := HC.out.1.nr
    rw [HC.out.2.2] at hnr
    obtain ⟨nb, cn', hN2, _, _⟩ := Un.own_shape hnr (by omega)
    cases hN2
    have HCELL : Hid (∀ W, Below w.heap.size w W → W.cell? ⟨cb, 7, none⟩ = some (.slice (some ⟨nb, 0, none⟩) G.length cn) ∧ (∀ j, j < G.length → W.cell? ⟨nb, j, none⟩ = some (.int .i64 (nx j : Nat))) ∧ W.cell? ⟨cb, 2, none⟩ = some (.pointer (some ⟨A.g, 0, none⟩)) ∧ cb < W.heap.size) := Lib.hid fun W hb => ⟨(hb.cell (World.block_lt_of_cell? _ _ c7)).trans c7, fun j hj => by
      have h := (hnr.cellAt j (by omega)).trans (Un.rowI_get hj)
      exact (hb.cell (World.block_lt_of_cell? _ _ h)).trans h, (hb.cell (World.block_lt_of_cell? _ _ c2)).trans c2, Nat.lt_of_lt_of_le hl0 hb.size⟩
    have HVH := Lib.hid HV
    have HM := Lib.hid (And.intro hnd (And.intro hmem (And.intro hML (And.intro hvar (And.intro hpth (And.intro hvi (And.intro hpv pv2)))))))
    clear HV hnd hmem hvar hpth hnr c2 c7 hLM hvi hpv pv1 pv2 hML
    go_enter Try.func33, Try.ntmps33
    go_wp2_with fail
    refine HVH.out.mono ?_
    rintro e w2 ⟨rfl, hb⟩
    have HB2 := Lib.hid hb
    have hb3 : Below w.heap.size w (w2.alloc (.cells #[.int .i64 v] 3)) := hb.alloc hb.size _
    obtain ⟨k7, kn8, k2, kl⟩ := HCELL.out _ hb3
    have kni := kn8 i hi
    clear hb HVH kn8
    dsimp only [Option.getD_some, Option.isSome_some]
    go_wp2_with fail
    go_loopw [7, 8] (fun s t wr => ∃ (P Q : List Nat) (cur : Nat), M = P ++ Q ∧ t = .int .i64 (cur : Nat) ∧ Pth nx cur Q i ∧ wr.ownsRow w.heap.size 3 1 s (nmL G (i :: P)).length (ints (nmL G (i :: P))) ∧ Below w.heap.size w wr) (fun s _ _ => M.length + 1 - todoN s)
    case atStart =>
      refine ⟨[], M, nx i, rfl, rfl, HM.out.2.2.2.2.1, ?_, hb3⟩
      have e : nmG G i = v := by
        unfold nmG
        rw [HM.out.2.2.2.2.2.2.1]
        exact HM.out.2.2.2.2.2.2.2
      simp only [nmL, List.map_cons, List.map_nil, e]
      exact ⟨rfl, .inr ⟨w2.heap.size, 1, #[.int .i64 v], rfl, HB2.out.size, heap_alloc_new _ _, Nat.le_refl _, by unfold maxLen; omega, rfl, rfl⟩⟩
    case round =>
      obtain ⟨P, Q, cur, hPQ, rfl, hp, hown, hb⟩ := hrel
      clear k7 kni k2 kl hb3
      obtain ⟨As, cs, rfl, _, _⟩ := Un.own_form hown
      have hlP : (nmL G (i :: P)).length = P.length + 1 := by simp [nmL]
      have hMl : M.length = P.length + Q.length := by rw [hPQ, List.length_append]
      have hnl : M.length + 1 ≤ G.length := by simpa using HM.out.2.2.1
      cases Q with
      | nil =>
        cases hp
        have hown' := hown
        obtain ⟨gs, cs', e8, _, _⟩ := Un.own_shape hown (by omega)
        cases e8
        have HSo := Lib.hid (sort_ints wr w.heap.size gs cs (nmL G (i :: P)) hown (by omega))
        have HH := Lib.hid (And.intro hown (And.intro hb hPQ))
        rw [hlP] at HSo
        rw [hlP]
        have HHL := Lib.hid hlP
        clear hown hb hown' hlP hPQ
        go_wp2_with fail
        refine HSo.out.mono ?_
        rintro e w3 ⟨rfl, ys, hperm, hpw, hrd, hE⟩
        have HY := Lib.hid (And.intro hperm (And.intro hpw (And.intro hrd hE)))
        clear hperm hpw hrd hE HSo
        go_wp2_with fail
        obtain ⟨hperm, hpw, hrd, hE⟩ := HY.out
        obtain ⟨hown, hb, hPQ⟩ := HH.out
        rw [List.append_nil] at hPQ
        subst hPQ
        obtain ⟨hnd, hmem, hML, hvar, _, hvi, hpv, pv2⟩ := HM.out
        have hyl : ys.length = M.length + 1 := by rw [hperm.length_eq, HHL.out]
        refine bodyPost_ret (results_tmp rfl _ _ _) rfl ⟨_, ys, rfl, by rw [hyl]; exact hrd, ⟨?_, hpw, fun a => ?_⟩, by omega, hb.trans (hE.below (fun j hj => by subst hj; exact (hown.lt _ rfl).1) hb.size)⟩
        · refine hperm.nodup_iff.2 ?_
          unfold nmL
          refine nodup_map_on (fun x hx y hy hxy => ?_) hnd
          obtain ⟨p, hp, p1⟩ := hvar x hx
          obtain ⟨q, hq, q1⟩ := hvar y hy
          have e1 : nmG G x = p.2.1 := by unfold nmG; rw [hp]; rfl
          have e2 : nmG G y = q.2.1 := by unfold nmG; rw [hq]; rfl
          have g1 := gvar_node hg hp p1
          have g2 := gvar_node hg hq q1
          rw [← e1, hxy, e2, g2] at g1
          exact (Option.some.inj g1).symm
        · rw [hperm.mem_iff]
          unfold nmL
          rw [List.mem_map]
          constructor
          · rintro ⟨x, hx, rfl⟩
            obtain ⟨p, hp, p1⟩ := hvar x hx
            have e1 : nmG G x = p.2.1 := by unfold nmG; rw [hp]; rfl
            have g1 := gvar_node hg hp p1
            rw [← e1] at g1
            refine ⟨i, x, hgv, g1, ?_⟩
            rcases (vc_iff x i).1 ((hmem x).1 hx).2 with rfl | ⟨_, _, h3⟩
            · exact .refl _
            · exact HC.out.2.1.jn.done.2 (.inr ⟨hi, ((hmem x).1 hx).1, h3.symm⟩)
          · rintro ⟨i', x, h1, h2, h3⟩
            rw [hgv] at h1
            cases h1
            obtain ⟨p, hp, p1, p2⟩ := gvar_at h2
            refine ⟨x, (hmem x).2 ⟨lt_of_get hp, (vc_iff x i).2 ?_⟩, ?_⟩
            · rcases HC.out.2.1.jn.done.1 h3 with rfl | ⟨_, _, e⟩
              · exact .inl rfl
              · exact .inr ⟨isV_of ⟨p, hp, p1⟩, hvi, e.symm⟩
            · unfold nmG
              rw [hp]
              exact p2
      | cons q Q =>
        obtain ⟨hqc, hp1⟩ : q = cur ∧ Pth nx (nx q) Q i := by
          cases hp with
          | cons h => exact ⟨rfl, h⟩
        clear hp
        subst hqc
        have hp := hp1
        clear hp1
        have hqm : q ∈ (i :: M) := by rw [hPQ]; simp
        have hqi : q ≠ i := by
          rintro rfl
          have := HM.out.1
          rw [hPQ] at this
          simp at this
        have hqn : q < G.length := ((HM.out.2.1 q).1 hqm).1
        obtain ⟨p, hpq, p1⟩ := HM.out.2.2.2.1 q hqm
        have f1 : ((q : Int) != (i : Int)) = true := by simp; omega
        obtain ⟨k7, kn8, k2, kl⟩ := HCELL.out _ hb
        have hgr := HC.out.1.gr
        have HNM := name_in wr 0 A.g A.mb A.V A.L G (HC.out.1.gr.stay fun k hk => hb.block k (HC.out.1.gr.blocks hk)) q hqn
        have hpe : G[q] = p := (List.getElem?_eq_some_iff.1 hpq).2
        rw [hpe, if_pos p1] at HNM
        have HNH := Lib.hid HNM
        have HH := Lib.hid (And.intro hown (And.intro hb (And.intro hPQ (And.intro hp (And.intro hpq hlP)))))
        rw [hlP]
        clear hown hb hp hpq hpe HNM kn8 hgr hPQ hqm hlP
        go_wp2_with fail
        refine HNH.out.mono ?_
        rintro e w3 ⟨rfl, hb3⟩
        have hb3' : Below w.heap.size w w3 := HH.out.2.1.trans (hb3.mono HH.out.2.1.size)
        have hown3 := own_below HH.out.1 hb3
        obtain ⟨g4, c4, w4, hrun, hown4, hb4⟩ := app_io w.heap.size w3 hb3'.size _ (nmL G (i :: P)) hown3 p.2.1 (by have := HH.out.2.2.2.2.2; omega)
        rw [HH.out.2.2.2.2.2] at hrun
        have hb4' : Below w.heap.size w w4 := hb3'.trans hb4
        obtain ⟨m7, mn8, m2, ml⟩ := HCELL.out _ hb4'
        have mnq := mn8 q hqn
        have H4 := Lib.hid (And.intro hown4 hb4')
        clear hb3 hb3' hown3 hown4 hb4 hb4' HNH mn8
        go_wp2_with fail
        obtain ⟨hown, hb, hPQ, hp, hpq, hlP⟩ := HH.out
        refine ⟨⟨P ++ [q], Q, nx q, by rw [hPQ, List.append_assoc]; rfl, rfl, hp, ?_, H4.out.2⟩, ?_⟩
        · have e : nmL G (i :: (P ++ [q])) = nmL G (i :: P) ++ [p.2.1] := by
            unfold nmL
            rw [← List.cons_append, List.map_append]
            simp [nmG, hpq]
          rw [e]
          have h := H4.out.1
          rw [List.length_append, hlP] at h ⊢
          exact h
        · simp only [todoN]
          rw [hPQ, List.length_append, List.length_cons]
          omega
end
end Go.Proofs.Ytcaclgaaaanfnaa
/- Equations in whatever order, with sides changed about, and however often: the classes are the same. Nothing here speaks of the program. -/
namespace Go.Proofs.Ytcaclgaaaanfnaa
/-- Nodes that stand for types. -/
def RepL (H : List Gn) : Fo → List Nat → Prop
  | .nil, P => P = []
  | .cons k n _ ps r, P => ∃ j P', P = j :: P' ∧ (∃ s Q, H[j]? = some (k, n, s, Q) ∧ RepL H ps Q) ∧ RepL H r P'
theorem RepL.later {H X : List Gn} {F : Fo} : ∀ {P : List Nat}, RepL H F P → RepL (H ++ X) F P := by
  induction F with
  | nil => intro P h; exact h
  | cons k n u ps r i1 i2 =>
    rintro P ⟨j, P', rfl, ⟨s, Q, h1, h2⟩, h3⟩
    exact ⟨j, P', rfl, ⟨s, Q, app_get h1, i1 h2⟩, i2 h3⟩
/-- Variables have no parts. -/
def GV (G : List Gn) : Prop := ∀ p ∈ G, p.1 = 1 → p.2.2.2 = []
theorem gnode_GV {G : List Gn} {k n : Int} {P : List Nat} (h : GV G) (hk : k = 1 → P = []) : GV (gnode G k n P).1 := by
  unfold gnode
  split
  · exact h
  · intro p hp p1
    rcases List.mem_append.1 hp with hp | hp
    · exact h p hp p1
    · simp only [List.mem_cons, List.not_mem_nil, or_false] at hp
      subst hp
      exact hk p1
/-- What stays true of the nodes while right types are added. -/
structure Gok (G : List Gn) : Prop where
  gi : GI G
  gp : Gp G
  gn : GN G
  gv : GV G
theorem Gok.nil : Gok [] := ⟨fun _ h => (by cases h), fun _ h => (by cases h), ⟨by simp [names], fun n hn => by simp [names] at hn⟩, fun _ h => (by cases h)⟩
/-- A type that may be added. -/
structure Fok (F : Fo) : Prop where
  vok : Vok F
  alp : AlP F
  wf : F.wf
theorem Fok.parts {k n : Int} {u : Sl} {ps r : Fo} (h : Fok (.cons k n u ps r)) : Fok ps := ⟨h.vok.2.1, h.alp.2.1, h.wf.2.1⟩
theorem Fok.rest {k n : Int} {u : Sl} {ps r : Fo} (h : Fok (.cons k n u ps r)) : Fok r := ⟨h.vok.2.2, h.alp.2.2, h.wf.2.2⟩
theorem gnode_ok2 {G : List Gn} {k n : Int} {P : List Nat} (h : Gok G) (hk : k = 1 → P = []) (h8 : P.length ≤ 8) (hlt : ∀ u ∈ P, u < G.length) (hw : (Lit.int .i64 n).wf = true) : Gok (gnode G k n P).1 :=
  ⟨(gnode_ok G k n P h.gi hk).2.1, gnode_gp h.gp h8 hlt, gnode_GN h.gn hw, gnode_GV h.gv hk⟩
/-- Types are added: their nodes stand for them. -/
theorem gadd_rep (F : Fo) : ∀ G, Gok G → Fok F → Gok (gadd G F).1 ∧ RepL (gadd G F).1 F (gadd G F).2 ∧ ∀ p ∈ (gadd G F).2, p < (gadd G F).1.length := by
  induction F with
  | nil => intro G h _; rw [gadd_nil]; exact ⟨h, rfl, fun p hp => by cases hp⟩
  | cons k n u ps r i1 i2 =>
    intro G hG hF
    obtain ⟨g1, r1, l1⟩ := i1 G hG hF.parts
    have hk : k = 1 → (gadd G ps).2 = [] := fun h => by rw [hF.vok.1 h, gadd_nil]
    have h8 : (gadd G ps).2.length ≤ 8 := by rw [gadd_len]; exact alone_le hF.alp.1
    have g2 := gnode_ok2 (k := k) (n := n) g1 hk h8 l1 hF.wf.1
    have hlt := (gnode_ok (gadd G ps).1 k n (gadd G ps).2 g1.gi hk).2.2.1
    have hat : ∃ s Q, (gnode (gadd G ps).1 k n (gadd G ps).2).1[(gnode (gadd G ps).1 k n (gadd G ps).2).2]? = some (k, n, s, Q) ∧ RepL (gnode (gadd G ps).1 k n (gadd G ps).2).1 ps Q := by
      unfold gnode
      split
      · rename_i i hi
        split at hi
        · rename_i h1
          obtain ⟨x, hx, x1, x2⟩ := gvar_at hi
          have hq := g1.gv x (List.mem_of_getElem? hx) x1
          obtain ⟨a, b, c, d⟩ := x
          dsimp only at x1 x2 hq
          subst x1 x2 hq
          refine ⟨c, [], by rw [hx, h1], ?_⟩
          rw [hF.vok.1 h1]
          rfl
        · cases hi
      · exact ⟨1 + gsum (gadd G ps).1 (gadd G ps).2, (gadd G ps).2, by simp, r1.later⟩
    rw [← gadd1_eq] at g2 hat hlt
    obtain ⟨g3, r3, l3⟩ := i2 (gadd1 G k n ps).1 g2 hF.rest
    obtain ⟨X, hX, _⟩ := gadd_pre r (gadd1 G k n ps).1
    rw [gadd_cons]
    refine ⟨g3, ⟨_, _, rfl, ?_, r3⟩, fun p hp => ?_⟩
    · obtain ⟨s, Q, h1, h2⟩ := hat
      refine ⟨s, Q, ?_, ?_⟩
      · show (gadd (gadd1 G k n ps).1 r).1[_]? = _
        rw [hX]; exact app_get h1
      · show RepL (gadd (gadd1 G k n ps).1 r).1 ps Q
        rw [hX]; exact h2.later
    · rcases List.mem_cons.1 hp with rfl | hp
      · show _ < (gadd (gadd1 G k n ps).1 r).1.length
        rw [hX, List.length_append]; omega
      · exact l3 p hp
/-- The one graph's nodes among the other one's. -/
def Hm (G H : List Gn) (φ : Nat → Nat) : Prop := ∀ (i : Nat) (p : Gn), G[i]? = some p → ∃ s, H[φ i]? = some (p.1, p.2.1, s, p.2.2.2.map φ)
theorem hm_add (H : List Gn) (hH : GN H) (F : Fo) : ∀ (G : List Gn) (φ : Nat → Nat) (P : List Nat), Gok G → Fok F → Hm G H φ → RepL H F P → ∃ φ', (∀ i, i < G.length → φ' i = φ i) ∧ Hm (gadd G F).1 H φ' ∧ (gadd G F).2.map φ' = P := by
  induction F with
  | nil =>
    intro G φ P _ _ h hP
    rw [gadd_nil]
    exact ⟨φ, fun _ _ => rfl, h, by rw [show P = [] from hP]; rfl⟩
  | cons k n u ps r i1 i2 =>
    rintro G φ P hG hF h ⟨j, P', rfl, ⟨s, Q, hj, hQ⟩, hP'⟩
    obtain ⟨φ1, e1, h1, m1⟩ := i1 G φ Q hG hF.parts h hQ
    obtain ⟨g1, r1, l1⟩ := gadd_rep ps G hG hF.parts
    have hk : k = 1 → (gadd G ps).2 = [] := fun h => by rw [hF.vok.1 h, gadd_nil]
    have h8 : (gadd G ps).2.length ≤ 8 := by rw [gadd_len]; exact alone_le hF.alp.1
    have g2 := gnode_ok2 (k := k) (n := n) g1 hk h8 l1 hF.wf.1
    have hlt := (gnode_ok (gadd G ps).1 k n (gadd G ps).2 g1.gi hk).2.2.1
    obtain ⟨X1, hX1, _⟩ := gadd_pre ps G
    have hGl : G.length ≤ (gadd G ps).1.length := by rw [hX1, List.length_append]; omega
    have key : ∃ φ2, (∀ i, i < (gadd G ps).1.length → φ2 i = φ1 i) ∧ Hm (gnode (gadd G ps).1 k n (gadd G ps).2).1 H φ2 ∧ φ2 (gnode (gadd G ps).1 k n (gadd G ps).2).2 = j := by
      unfold gnode
      split
      · rename_i i hi
        split at hi
        · rename_i hk1
          obtain ⟨x, hx, x1, x2⟩ := gvar_at hi
          obtain ⟨s', hs'⟩ := h1 i x hx
          rw [x1, x2] at hs'
          have e1 := gvar_node hH hs' rfl
          rw [hk1] at hj
          have e2 := gvar_node hH hj rfl
          refine ⟨φ1, fun _ _ => rfl, h1, ?_⟩
          rw [e1] at e2
          exact Option.some.inj e2
        · cases hi
      · refine ⟨fun x => if x = (gadd G ps).1.length then j else φ1 x, fun i hi => if_neg (by omega), fun i p hp => ?_, if_pos rfl⟩
        have hmap : ∀ L : List Nat, (∀ u ∈ L, u < (gadd G ps).1.length) → L.map (fun x => if x = (gadd G ps).1.length then j else φ1 x) = L.map φ1 := fun L hL => List.map_congr_left fun u hu => if_neg (by have := hL u hu; omega)
        by_cases hil : i < (gadd G ps).1.length
        · have hp' := get_before hil hp
          obtain ⟨s', hs'⟩ := h1 i p hp'
          refine ⟨s', ?_⟩
          dsimp only
          rw [if_neg (by omega), hmap _ (g1.gp p (List.mem_of_getElem? hp')).2]
          exact hs'
        · have hie : i = (gadd G ps).1.length := by
            have := lt_of_get hp
            simp at this
            omega
          subst hie
          simp at hp
          subst hp
          refine ⟨s, ?_⟩
          dsimp only
          rw [if_pos rfl]
          rw [hmap _ l1, m1]
          exact hj
    obtain ⟨φ2, e2, h2, m2⟩ := key
    rw [← gadd1_eq] at g2 hlt h2 m2
    have hl12 : (gadd G ps).1.length ≤ (gadd1 G k n ps).1.length := by
      obtain ⟨X2, hX2, _⟩ := gnode_pre (gadd G ps).1 k n (gadd G ps).2
      rw [gadd1_eq, hX2, List.length_append]; omega
    obtain ⟨φ3, e3, h3, m3⟩ := i2 (gadd1 G k n ps).1 φ2 P' g2 hF.rest h2 hP'
    rw [gadd_cons]
    refine ⟨φ3, fun i hi => ?_, h3, ?_⟩
    · rw [e3 i (by omega), e2 i (by omega), e1 i hi]
    · show φ3 (gadd1 G k n ps).2 :: (gadd (gadd1 G k n ps).1 r).2.map φ3 = j :: P'
      rw [m3, e3 _ hlt, m2]
theorem Hm.cl {G H : List Gn} {φ : Nat → Nat} {E F : List (Nat × Nat)} (h : Hm G H φ) (hE : ∀ a b, (a, b) ∈ E → Cl H F (φ a) (φ b)) {a b : Nat} (hc : Cl G E a b) : Cl H F (φ a) (φ b) := by
  induction hc with
  | eq e => exact hE _ _ e
  | refl a => exact .refl _
  | symm _ ih => exact .symm ih
  | trans _ _ i1 i2 => exact .trans i1 i2
  | @part x y a b j p q _ hp hq p1 q1 hk hl ha hb ih =>
    obtain ⟨s, hs⟩ := h _ _ hp
    obtain ⟨t, ht⟩ := h _ _ hq
    exact .part (j := j) ih hs ht p1 q1 hk (by simpa using hl) (by rw [List.getElem?_map, ha]; rfl) (by rw [List.getElem?_map, hb]; rfl)
theorem Hm.clash {G H : List Gn} {φ : Nat → Nat} {E F : List (Nat × Nat)} (h : Hm G H φ) (hE : ∀ a b, (a, b) ∈ E → Cl H F (φ a) (φ b)) (hc : Clash G E) : Clash H F := by
  obtain ⟨x, y, p, q, h1, hp, hq, p1, q1, hf⟩ := hc
  obtain ⟨s, hs⟩ := h _ _ hp
  obtain ⟨t, ht⟩ := h _ _ hq
  exact ⟨_, _, _, _, h.cl hE h1, hs, ht, p1, q1, fun e => hf ⟨e.1, by simpa using e.2⟩⟩
/-- One type as a forest. -/
def one1 (t : Ty1) : Fo := .cons t.1 t.2.1 t.2.2.1 t.2.2.2 .nil
/-- An equation that holds of nodes. -/
def HoldsIn (t : Sys) (x : Eqn) : Prop := ∃ a b, RepL t.1 (one1 x.1) [a] ∧ RepL t.1 (one1 x.2.1) [b] ∧ Cl t.1 t.2 a b
def Eok (x : Eqn) : Prop := Fok (one1 x.1) ∧ Fok (one1 x.2.1)
def flipE (x : Eqn) : Eqn := (x.2.1, x.1, x.2.2)
theorem HoldsIn.flip {t : Sys} {x : Eqn} (h : HoldsIn t x) : HoldsIn t (flipE x) := by
  obtain ⟨a, b, h1, h2, h3⟩ := h
  exact ⟨b, a, h2, h1, h3.symm⟩
theorem HoldsIn.later {s t : Sys} {x : Eqn} (hX : ∃ X, t.1 = s.1 ++ X) (hY : ∃ Y, t.2 = s.2 ++ Y) (h : HoldsIn s x) : HoldsIn t x := by
  obtain ⟨a, b, h1, h2, h3⟩ := h
  obtain ⟨X, hX'⟩ := hX
  exact ⟨a, b, by rw [hX']; exact h1.later, by rw [hX']; exact h2.later, h3.later ⟨X, hX'⟩ hY⟩
theorem gadd_one (G : List Gn) (t : Ty1) : gadd G (one1 t) = ((gadd1 G t.1 t.2.1 t.2.2.2).1, [(gadd1 G t.1 t.2.1 t.2.2.2).2]) := by
  unfold one1
  rw [gadd_cons, gadd_nil]
/-- What comes in holds. -/
theorem stp_ok {s : Sys} {x : Eqn} (h : Gok s.1) (hx : Eok x) : Gok (stp s x).1 ∧ HoldsIn (stp s x) x := by
  obtain ⟨g1, r1, l1⟩ := gadd_rep (one1 x.1) s.1 h hx.1
  rw [gadd_one] at g1 r1 l1
  dsimp only at g1 r1 l1
  obtain ⟨g2, r2, l2⟩ := gadd_rep (one1 x.2.1) _ g1 hx.2
  rw [gadd_one] at g2 r2 l2
  dsimp only at g2 r2 l2
  obtain ⟨X, hX, _⟩ := gadd1_pre (gadd1 s.1 x.1.1 x.1.2.1 x.1.2.2.2).1 x.2.1.1 x.2.1.2.1 x.2.1.2.2.2
  refine ⟨g2, (gadd1 s.1 x.1.1 x.1.2.1 x.1.2.2.2).2, (gadd1 (gadd1 s.1 x.1.1 x.1.2.1 x.1.2.2.2).1 x.2.1.1 x.2.1.2.1 x.2.1.2.2.2).2, ?_, r2, .eq ?_⟩
  · show RepL (gadd1 (gadd1 s.1 x.1.1 x.1.2.1 x.1.2.2.2).1 x.2.1.1 x.2.1.2.1 x.2.1.2.2.2).1 _ _
    rw [hX]
    exact r1.later
  · exact List.mem_append_right _ (List.mem_singleton.2 rfl)
theorem fold_ok (m : List Eqn) : ∀ s : Sys, Gok s.1 → (∀ x ∈ m, Eok x) → Gok (m.foldl stp s).1 ∧ ∀ x ∈ m, HoldsIn (m.foldl stp s) x := by
  induction m with
  | nil => intro s h _; exact ⟨h, fun x hx => by cases hx⟩
  | cons y m ih =>
    intro s h hm
    obtain ⟨h1, h2⟩ := stp_ok h (hm y List.mem_cons_self)
    obtain ⟨h3, h4⟩ := ih _ h1 fun x hx => hm x (List.mem_cons_of_mem _ hx)
    refine ⟨h3, fun x hx => ?_⟩
    rcases List.mem_cons.1 hx with rfl | hx
    · obtain ⟨⟨X, hX, _⟩, hY⟩ := fold_pre m (stp s x)
      exact h2.later ⟨X, hX⟩ hY
    · exact h4 x hx
/-- What holds elsewhere is found there. -/
theorem fold_hm (t : Sys) (hH : GN t.1) (m : List Eqn) : ∀ (s : Sys) (φ : Nat → Nat), Gok s.1 → (∀ a b, (a, b) ∈ s.2 → a < s.1.length ∧ b < s.1.length) → (∀ x ∈ m, Eok x) → (∀ x ∈ m, HoldsIn t x) → Hm s.1 t.1 φ → (∀ a b, (a, b) ∈ s.2 → Cl t.1 t.2 (φ a) (φ b)) →
    ∃ φ', Hm (m.foldl stp s).1 t.1 φ' ∧ ∀ a b, (a, b) ∈ (m.foldl stp s).2 → Cl t.1 t.2 (φ' a) (φ' b) := by
  induction m with
  | nil => intro s φ _ _ _ _ h hE; exact ⟨φ, h, hE⟩
  | cons y m ih =>
    intro s φ hG hl hm ht h hE
    have hy := hm y List.mem_cons_self
    obtain ⟨a, b, ra, rb, hc⟩ := ht y List.mem_cons_self
    obtain ⟨φ1, e1, h1, m1⟩ := hm_add t.1 hH (one1 y.1) s.1 φ [a] hG hy.1 h ra
    obtain ⟨g1, _, l1⟩ := gadd_rep (one1 y.1) s.1 hG hy.1
    rw [gadd_one] at h1 m1 g1 l1
    dsimp only at h1 m1 g1 l1
    obtain ⟨φ2, e2, h2, m2⟩ := hm_add t.1 hH (one1 y.2.1) _ φ1 [b] g1 hy.2 h1 rb
    obtain ⟨g2, _, l2⟩ := gadd_rep (one1 y.2.1) _ g1 hy.2
    rw [gadd_one] at h2 m2 g2 l2
    dsimp only at h2 m2 g2 l2
    simp only [List.map_cons, List.map_nil, List.cons.injEq, and_true] at m1 m2
    have la := l1 _ (List.mem_singleton.2 rfl)
    have lb := l2 _ (List.mem_singleton.2 rfl)
    obtain ⟨X1, hX1, _⟩ := gadd1_pre s.1 y.1.1 y.1.2.1 y.1.2.2.2
    obtain ⟨X2, hX2, _⟩ := gadd1_pre (gadd1 s.1 y.1.1 y.1.2.1 y.1.2.2.2).1 y.2.1.1 y.2.1.2.1 y.2.1.2.2.2
    have hl1 : s.1.length ≤ (gadd1 s.1 y.1.1 y.1.2.1 y.1.2.2.2).1.length := by rw [hX1, List.length_append]; omega
    have hl2 : (gadd1 s.1 y.1.1 y.1.2.1 y.1.2.2.2).1.length ≤ (stp s y).1.length := by
      show _ ≤ (gadd1 (gadd1 s.1 y.1.1 y.1.2.1 y.1.2.2.2).1 y.2.1.1 y.2.1.2.1 y.2.1.2.2.2).1.length
      rw [hX2, List.length_append]; omega
    refine ih (stp s y) φ2 g2 (fun c d hcd => ?_) (fun x hx => hm x (List.mem_cons_of_mem _ hx)) (fun x hx => ht x (List.mem_cons_of_mem _ hx)) h2 fun c d hcd => ?_
    · rcases List.mem_append.1 hcd with hcd | hcd
      · have := hl c d hcd
        omega
      · simp only [List.mem_cons, List.not_mem_nil, or_false, Prod.mk.injEq] at hcd
        obtain ⟨rfl, rfl⟩ := hcd
        exact ⟨by omega, lb⟩
    · rcases List.mem_append.1 hcd with hcd | hcd
      · have hlt := hl c d hcd
        rw [e2 c (by omega), e2 d (by omega), e1 c hlt.1, e1 d hlt.2]
        exact hE c d hcd
      · simp only [List.mem_cons, List.not_mem_nil, or_false, Prod.mk.injEq] at hcd
        obtain ⟨rfl, rfl⟩ := hcd
        rw [e2 _ la, m1, m2]
        exact hc
/-- Of one list of equations what holds of the other one. -/
structure Sim (s t : Sys) : Prop where
  clash : Clash s.1 s.2 → Clash t.1 t.2
  var : ∀ a, a ∈ names s.1 → a ∈ names t.1
  same : ∀ a b, SameIs s.1 s.2 a b → SameIs t.1 t.2 a b
  kind : ¬ Clash t.1 t.2 → ∀ v r r', KindIs s.1 s.2 v r → KindIs t.1 t.2 v r' → r ≠ 0 → r' = r
theorem sim_of (l m : List Eqn) (hl : ∀ x ∈ l, Eok x) (hm : ∀ x ∈ m, Eok x) (h : ∀ x ∈ l, HoldsIn (cls m) x) : Sim (cls l) (cls m) := by
  obtain ⟨gm, _⟩ := fold_ok m ([], []) Gok.nil hm
  have gm : Gok (cls m).1 := gm
  obtain ⟨φ, h1, h2⟩ := fold_hm (cls m) gm.gn l ([], []) (fun x => x) Gok.nil (fun a b h => by cases h) hl h (fun i p hp => by simp at hp) (fun a b h => by cases h)
  have h1 : Hm (cls l).1 (cls m).1 φ := h1
  have hv : ∀ a i, gvar (cls l).1 a = some i → gvar (cls m).1 a = some (φ i) := fun a i hi => by
    obtain ⟨p, hp, p1, p2⟩ := gvar_at hi
    obtain ⟨s, hs⟩ := h1 i p hp
    have := gvar_node gm.gn hs p1
    dsimp only at this
    rw [p2] at this
    exact this
  refine ⟨h1.clash h2, fun a ha => ?_, fun a b hab => ?_, fun hn v r r' hr hr' h0 => ?_⟩
  · obtain ⟨i, p, _, _, _, hi⟩ := names_at ha
    exact (gvar_names _ a).1 (by rw [hv a i hi]; rfl)
  · obtain ⟨i, j, hi, hj, hc⟩ := hab
    exact ⟨φ i, φ j, hv a i hi, hv b j hj, h1.cl h2 hc⟩
  · unfold KindIs at hr hr'
    cases hg : gvar (cls l).1 v with
    | none => rw [hg] at hr; exact absurd hr h0
    | some i =>
      rw [hg] at hr
      rw [hv v i hg] at hr'
      rcases hr with ⟨y, q, c1, c2, c3, rfl⟩ | ⟨e, _⟩
      · obtain ⟨s, hs⟩ := h1 y q c2
        have c1' := h1.cl h2 c1
        rcases hr' with ⟨z, p, g1, g2, g3, rfl⟩ | ⟨_, g⟩
        · apply Decidable.byContradiction
          intro hne
          exact hn ⟨z, φ y, p, _, g1.symm.trans c1', g2, hs, g3, c3, fun e => hne e.1⟩
        · exact absurd (g (φ y) _ c1' hs) c3
      · exact absurd e h0
theorem sim_vars {s t : Sys} (hs : GN s.1) (ht : GN t.1) (h1 : ∀ a, a ∈ names s.1 → a ∈ names t.1) (h2 : ∀ a, a ∈ names t.1 → a ∈ names s.1) : vsort s.1 = vsort t.1 := by
  obtain ⟨a1, a2⟩ := vfold s.1 [] List.Pairwise.nil
  obtain ⟨b1, b2⟩ := vfold t.1 [] List.Pairwise.nil
  rw [List.nil_append] at a2 b2
  have hp : (names s.1).Perm (names t.1) := (List.perm_ext_iff_of_nodup hs.1 ht.1).2 fun a => ⟨h1 a, h2 a⟩
  exact List.Perm.eq_of_pairwise (le := fun a b => a ≤ b) (fun a b _ _ h1 h2 => Int.le_antisymm h1 h2) a1 b1 (a2.trans (hp.trans b2.symm))
end Go.Proofs.Ytcaclgaaaanfnaa
