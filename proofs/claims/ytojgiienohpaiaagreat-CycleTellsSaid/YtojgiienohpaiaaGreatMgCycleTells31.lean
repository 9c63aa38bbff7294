/- Texts of one proof, one behind the other. -/
import Derived.Test.YtojgiienohpaiaaGreatMgCycleTells30
import Derived.Test.YtojgiienohpaiaaGreatMgCycleTells26
import Derived.Test.YtojgiienohpaiaaGreatMgCycleTells25
import Derived.Deep.LoopGhost
import Derived.Deep.QuietTactic
import Derived.BigQuiet
namespace Go.Proofs.YtojgiienohpaiaaGreat
section CyOs
variable {G : List Gn} {cc col ro : Nat → Nat} {kn : Kn} {E : List (Nat × Nat)} {f : Int → Int → Int} {R R' : Nat → Prop} {val val' : Nat → Int} {i : Nat}
theorem next_is (G : List Gn) (cc : Nat → Nat) (i : Nat) : ∃ P, NextIs G cc i P := by
  by_cases h : ∃ (k : Nat) (p : Gn), G[k]? = some p ∧ cc k = cc i ∧ p.1 ≠ 1
  · obtain ⟨k, p, h1, h2, h3⟩ := h
    exact ⟨_, .inl ⟨k, p, h1, h2, h3, rfl⟩⟩
  · exact ⟨[], .inr ⟨fun k p h1 h2 => Classical.byContradiction fun h3 => h ⟨k, p, h1, h2, h3⟩, rfl⟩⟩
theorem NextIs.lt (hp : ∀ p ∈ G, ∀ u ∈ p.2.2.2, u < G.length) {P : List Nat} (h : NextIs G cc i P) : ∀ u ∈ P, u < G.length := by
  rcases h with ⟨k, p, h1, _, _, rfl⟩ | ⟨_, rfl⟩
  · exact hp p (List.mem_of_getElem? h1)
  · intro u hu
    cases hu
theorem MsN.next (hB : Both G col ro kn E cc) (hM : MsN G E f R val) (hi : i < G.length) (hR : R i) {P : List Nat} (hP : NextIs G cc i P) : val i = msf f (P.map val) ∧ ∀ u ∈ P, R u := by
  rcases hP with ⟨k, p, h1, h2, h3, rfl⟩ | ⟨h1, rfl⟩
  · exact hM.whole i hR hi k p ((hB.cl hi (lt_of_get h1)).2 h2.symm) h1 h3
  · exact ⟨hM.bare i hR hi fun z p hz hp => h1 z p hp ((hB.cl hi (lt_of_get hp)).1 hz).symm, fun u hu => by cases hu⟩
theorem msn_same (hB : Both G col ro kn E cc) (hp : ∀ p ∈ G, ∀ u ∈ p.2.2.2, u < G.length) (hM : MsN G E f R val) (hM' : MsN G E f R' val') : ∀ c, AccC G cc c → ∀ i, cc i = c → i < G.length → R i → R' i → val i = val' i := by
  intro c hc
  induction hc with
  | intro c _ ih =>
    intro i hic hi hR hR'
    obtain ⟨P, hP⟩ := next_is G cc i
    obtain ⟨h1, h2⟩ := hM.next hB hi hR hP
    obtain ⟨h3, h4⟩ := hM'.next hB hi hR' hP
    rw [h1, h3]
    congr 1
    refine List.map_congr_left fun u hu => ih (cc u) ?_ u rfl (hP.lt hp u hu) (h2 u hu) (h4 u hu)
    rw [← hic]
    exact (hP.all hB hi _).2 ⟨u, hu, rfl⟩
theorem foldl_max (b : Int) (l : List Int) : (∀ x ∈ l, 0 ≤ x ∧ x ≤ b) → ∀ a, 0 ≤ a → a ≤ b → 0 ≤ l.foldl maxI a ∧ l.foldl maxI a ≤ b := by
  induction l with
  | nil => intro _ a h1 h2; exact ⟨h1, h2⟩
  | cons x l ih =>
    intro h a h1 h2
    have hx := h x List.mem_cons_self
    rw [List.foldl_cons]
    refine ih (fun y hy => h y (List.mem_cons_of_mem _ hy)) _ ?_ ?_ <;> (unfold maxI; split <;> omega)
theorem depth_few (hB : Both G col ro kn E cc) (hp : ∀ p ∈ G, ∀ u ∈ p.2.2.2, u < G.length) (hM : MsN G E maxI R val) : ∀ c, AccC G cc c → ∀ i, cc i = c → i < G.length → R i → ∀ V : List Nat, V.Nodup → (∀ v ∈ V, v ∈ (List.range G.length).map cc) → (∀ v ∈ V, Cp G cc v c) → 1 ≤ val i ∧ val i + V.length ≤ G.length := by
  intro c hc
  induction hc with
  | intro c hacc ih =>
    intro i hic hi hR V hn hV hRV
    have hno := AccC.no (Acc.intro c hacc)
    have hcV : c ∉ V := fun h => hno (hRV c h)
    have hci : c ∈ (List.range G.length).map cc := by rw [← hic]; exact List.mem_map_of_mem (List.mem_range.2 hi)
    have hVm : ∀ x ∈ c :: V, x ∈ (List.range G.length).map cc := fun x hx => by
      rcases List.mem_cons.1 hx with rfl | hx
      · exact hci
      · exact hV x hx
    have hnd : (c :: V).Nodup := List.nodup_cons.2 ⟨hcV, hn⟩
    have hlen := nodup_sub hnd hVm
    rw [List.length_cons, List.length_map, List.length_range] at hlen
    obtain ⟨P, hP⟩ := next_is G cc i
    obtain ⟨h1, h2⟩ := hM.next hB hi hR hP
    have hst : ∀ u ∈ P, Cs G cc c (cc u) := fun u hu => by
      rw [← hic]
      exact (hP.all hB hi _).2 ⟨u, hu, rfl⟩
    have key : ∀ u ∈ P, 0 ≤ val u ∧ val u ≤ (G.length : Int) - V.length - 1 := fun u hu => by
      have h := ih (cc u) (hst u hu) u rfl (hP.lt hp u hu) (h2 u hu) (c :: V) hnd hVm (fun v hv => by
        rcases List.mem_cons.1 hv with rfl | hv
        · exact .one (hst u hu)
        · exact (hRV v hv).more (hst u hu))
      rw [List.length_cons] at h
      push_cast at h
      omega
    have hf := foldl_max ((G.length : Int) - V.length - 1) (P.map val) (fun x hx => by
      obtain ⟨u, hu, rfl⟩ := List.mem_map.1 hx
      exact key u hu) 0 (by omega) (by omega)
    rw [h1]
    unfold msf capm mst
    split <;> omega
theorem depth_acc (hB : Both G col ro kn E cc) (hp : ∀ p ∈ G, ∀ u ∈ p.2.2.2, u < G.length) (hM : MsN G E maxI R val) (ha : AccC G cc (cc i)) (hi : i < G.length) (hR : R i) : 1 ≤ val i ∧ val i ≤ G.length := by
  have h := depth_few hB hp hM (cc i) ha i rfl hi hR [] List.nodup_nil (fun v hv => by cases hv) (fun v hv => by cases hv)
  simpa using h
theorem depth_next (hB : Both G col ro kn E cc) (hp : ∀ p ∈ G, ∀ u ∈ p.2.2.2, u < G.length) (hM : MsN G E maxI R val) (ha : AccC G cc (cc i)) (hi : i < G.length) (hR : R i) (hl : G.length ≤ 10000) {P : List Nat} (hP : NextIs G cc i P) : val i = (P.map val).foldl maxI 0 + 1 := by
  have h := depth_acc hB hp hM ha hi hR
  have h1 := (hM.next hB hi hR hP).1
  rw [h1] at h
  rw [h1]
  unfold msf capm mst at *
  split at h
  · omega
  · rw [if_neg (by assumption)]
theorem size_few (hB : Both G col ro kn E cc) (hp : ∀ p ∈ G, ∀ u ∈ p.2.2.2, u < G.length) (hM : MsN G E (fun a b => a + b) R val) : ∀ c, AccC G cc c → ∀ i, cc i = c → i < G.length → R i → 1 ≤ val i ∧ val i ≤ mst := by
  intro c hc
  induction hc with
  | intro c _ ih =>
    intro i hic hi hR
    obtain ⟨P, hP⟩ := next_is G cc i
    obtain ⟨h1, h2⟩ := hM.next hB hi hR hP
    have hs : ∀ l : List Int, (∀ x ∈ l, 0 ≤ x) → ∀ a : Int, 0 ≤ a → 0 ≤ l.foldl (fun a b => a + b) a := by
      intro l
      induction l with
      | nil => intro _ a ha; exact ha
      | cons x l ihl =>
        intro h a ha
        have hx := h x List.mem_cons_self
        exact ihl (fun y hy => h y (List.mem_cons_of_mem _ hy)) _ (by show 0 ≤ a + x; omega)
    have h0 := hs (P.map val) (fun x hx => by
      obtain ⟨u, hu, rfl⟩ := List.mem_map.1 hx
      have := ih (cc u) (by rw [← hic]; exact (hP.all hB hi _).2 ⟨u, hu, rfl⟩) u rfl (hP.lt hp u hu) (h2 u hu)
      omega) 0 (by omega)
    rw [h1]
    unfold msf capm mst
    split <;> omega
def cut1 (l : List Int) : Int := capm (l.foldl (fun a b => a + b) 0)
theorem foldl_add (l : List Int) : (∀ x ∈ l, 0 ≤ x) → ∀ a : Int, 0 ≤ a → 0 ≤ l.foldl (fun a b => a + b) a := by
  induction l with
  | nil => intro _ a ha; exact ha
  | cons x l ihl =>
    intro h a ha
    have hx := h x List.mem_cons_self
    exact ihl (fun y hy => h y (List.mem_cons_of_mem _ hy)) _ (by show 0 ≤ a + x; omega)
theorem cut1_nil : cut1 [] = 1 := by decide
theorem cut1_snoc (l : List Int) (x : Int) (h : ∀ y ∈ l, 0 ≤ y) (hx : 0 ≤ x) : cut1 (l ++ [x]) = if cut1 l + x < mst then cut1 l + x else mst := by
  have h0 := foldl_add l h 0 (by omega)
  unfold cut1
  rw [List.foldl_append]
  simp only [List.foldl_cons, List.foldl_nil]
  unfold capm mst
  repeat' split
  all_goals omega
theorem cut1_in (l : List Int) (h : ∀ y ∈ l, 0 ≤ y) : 1 ≤ cut1 l ∧ cut1 l ≤ mst := by
  have h0 := foldl_add l h 0 (by omega)
  unfold cut1 capm mst
  split <;> omega
end CyOs
end Go.Proofs.YtojgiienohpaiaaGreat
namespace Go.Proofs.YtojgiienohpaiaaGreat
open Go.RowKit
open Un (rowI rowI_get Else own_else wp_world)
attribute [local go_sem] Oper.semAt_some
attribute [local go_sem ↓] builtin_app
set_option maxRecDepth 100000
structure An3 (D : Nat → Prop) (B : Nat) (w : World) (vm vs : Value) (M : List Rm) (G : List Gn) (cc : Nat → Nat) : Prop where
  row : RdD D w 4 vm M.length (M.flatMap rmC)
  nodes : ∀ x ∈ M, RdD D w 1 (slv x.2) x.1.2.2.2.2.length (nums x.1.2.2.2.2)
  col : w.ownsRow B 3 1 vs M.length (rowI M.length cc)
  lens : ∀ x ∈ M, x.2.2.1 = x.1.2.2.2.2.length
  gm : gM M = G
section CyWs
variable {D : Nat → Prop} {B : Nat} {w w' : World} {vm vs : Value} {M : List Rm} {G : List Gn} {cc : Nat → Nat} {i : Nat} {col ro : Nat → Nat} {kn : Kn} {E : List (Nat × Nat)}
theorem An3.to (h : An3 D B w vm vs M G cc) {S : Nat → Prop} (he : Else S w w') (hD : ∀ k, S k → ¬ D k) (hB : ∀ k, S k → vs.ownBlock ≠ some k) : An3 D B w' vm vs M G cc :=
  ⟨h.row.to he.size fun b hd hlt => he.block b hlt fun hs => hD b hs hd, fun x hx => (h.nodes x hx).to he.size fun b hd hlt => he.block b hlt fun hs => hD b hs hd, own_else h.col he (fun k hk hs => hB k hs hk), h.lens, h.gm⟩
theorem An3.below (h : An3 D B w vm vs M G cc) (hb : Below w.heap.size w w') : An3 D B w' vm vs M G cc := h.to (S := fun _ => False) (Else.of_below hb) (fun _ e => e.elim) fun _ e => e.elim
theorem An3.len (h : An3 D B w vm vs M G cc) : M.length = G.length := by rw [← h.gm]; simp [gM]
theorem RdD.form {Dp : Nat → Prop} {W : World} {v : Value} {s n : Nat} {xs : List Value} (h : RdD Dp W s v n xs) : ∃ A c, v = .slice A n c := h.1.form
theorem next_any (h : An3 D B w vm vs M G cc) (hl : G.length ≤ 100000) (hi : i < G.length) :
    Calls Tryz.prog 43 #[.agg #[vm, vs], .int .i64 (i : Nat)] w fun x w' => (∃ v P, x = .returned v ∧ RdD D w' 1 v P.length (nums P) ∧ NextIs G cc i P) ∧ Below w.heap.size w w' := by
  have hlen := h.len
  obtain ⟨Am, cm, rfl⟩ := h.row.form
  obtain ⟨As, cs, rfl, _, _⟩ := Un.own_form h.col
  obtain ⟨w0, hw0⟩ : ∃ w0, w.alloc (.cells #[.slice Am M.length cm, .slice As M.length cs] 33) = w0 := ⟨_, rfl⟩
  have hb0 : Below w.heap.size w w0 := by rw [← hw0]; exact (Below.refl _ _).alloc (Nat.le_refl _) _
  have hx0 : w0.heap[w.heap.size]? = some (.cells #[.slice Am M.length cm, .slice As M.length cs] 33) := by rw [← hw0]; exact heap_alloc_new _ _
  have h0 := h.below hb0
  have HWH := Lib.hid (whole_any w0 M _ _ cc B h0.row.1 h0.col (by omega) i (by omega))
  have x0 : w0.cell? ⟨w.heap.size, 0, none⟩ = some (.slice Am M.length cm) := cell_of_row w0 _ 0 _ _ (0, 0) hx0
  have x1 : w0.cell? ⟨w.heap.size, 1, none⟩ = some (.slice As M.length cs) := cell_of_row w0 _ 1 _ _ (0, 0) hx0
  obtain ⟨N, hN⟩ : ∃ N, M.length = N := ⟨_, rfl⟩
  have H := Lib.hid (And.intro h0 (And.intro hb0 (And.intro hx0 (And.intro hlen (And.intro hN (And.intro hl hi))))))
  have HW0 := Lib.hid hw0
  rw [hN] at x0 x1 HWH ⊢
  clear h hb0 hx0 h0 hlen hN hw0 hl hi
  go_enter Tryz.func43, Tryz.ntmps43
  go_upto_region 1 with fail
  rw [show (w.alloc (.cells #[.slice Am N cm, .slice As N cs] 33)) = w0 from by have := HW0.out; rw [H.out.2.2.2.2.1] at this; exact this]
  go_wp2_with fail
  refine HWH.out.mono ?_
  clear HWH
  rintro x w2 ⟨r, rfl, hr, hb2⟩
  have hx2 := (hb2.block _ (Array.getElem?_eq_some_iff.1 H.out.2.2.1).1).trans H.out.2.2.1
  have y0 : w2.cell? ⟨w.heap.size, 0, none⟩ = some (.slice Am N cm) := by rw [← H.out.2.2.2.2.1]; exact cell_of_row w2 _ 0 _ _ (0, 0) hx2
  have hbt : Below w.heap.size w w2 := H.out.2.1.trans (hb2.mono H.out.2.1.size)
  have H2 := Lib.hid (And.intro hr (And.intro hbt (H.out.1.below hb2)))
  clear hr hb2 hx2 hbt x0 x1
  rcases H2.out.1 with ⟨k, p, rfl, hp, hck, p1⟩ | ⟨rfl, hno⟩
  · have hkG : k < G.length := by rw [← H.out.1.gm]; exact lt_of_get hp
    have hkM : k < M.length := by have := H.out.2.2.2.1; omega
    have hkN : k < N := by have := H.out.2.2.2.2.1; omega
    have hk5 : k ≤ 100000 := by have := H.out.2.2.2.2.2.1; omega
    have hnode := H2.out.2.2.nodes _ (List.getElem_mem hkM)
    have hlens := H.out.1.lens _ (List.getElem_mem hkM)
    obtain ⟨b1, o1, cap1, hv1, _, _, hlt1, hc1⟩ := H2.out.2.2.row.1.2.resolve_left (by rintro ⟨h, _⟩; omega)
    injection hv1 with hA1 hA2 hcc1
    subst hA1
    clear hA2 hcc1
    obtain ⟨-, -, -, p3⟩ := rmC_at M k hkM
    have hpe : p = rG M[k].1 := by
      have : (gM M)[k]? = some (rG M[k].1) := by simp [gM, hkM]
      rw [hp] at this
      exact Option.some.inj this
    obtain ⟨⟨R1, R2, R3⟩, hR⟩ : ∃ R, M[k].2 = R := ⟨_, rfl⟩
    rw [hR] at p3 hnode
    have z3 : w2.cell? ⟨b1, o1 + k * 4 + 3, none⟩ = some (.slice R1 R2 R3) := hc1 _ _ p3
    have HN := Lib.hid (And.intro hp (And.intro hck (And.intro p1 (And.intro hpe hnode))))
    clear hp hck p1 hpe hnode hlens hc1 p3 hlt1 hR hkG
    go_wp2_with fail
    refine bodyPost_ret (results_tmp rfl _ _ _) rfl ⟨⟨_, p.2.2.2, rfl, ?_, .inl ⟨k, p, by rw [← H.out.1.gm]; exact HN.out.1, HN.out.2.1, HN.out.2.2.1, rfl⟩⟩, H2.out.2.1⟩
    have := HN.out.2.2.2.2
    rw [HN.out.2.2.2.1]
    exact this
  · have HNO := Lib.hid hno
    clear hno
    go_wp2_with fail
    exact bodyPost_ret (results_tmp rfl _ _ _) rfl ⟨⟨_, [], rfl, ⟨⟨rfl, .inl ⟨rfl, none, 0, rfl⟩⟩, fun h => absurd h (Nat.lt_irrefl _)⟩, .inr ⟨fun k p hp hc => HNO.out k p (by rw [H.out.1.gm]; exact hp) hc, rfl⟩⟩, H2.out.2.1⟩
variable {C N : List Nat} {n : Nat}
structure CmI (G : List Gn) (cc : Nat → Nat) (i : Nat) (C N : List Nat) (n : Nat) : Prop where
  come : ∀ u ∈ N, u < G.length ∧ Cp G cc (cc i) (cc u)
  nd : C.Nodup
  from_ : ∀ d ∈ C, ∃ (t u : Nat), t < n ∧ N[t]? = some u ∧ cc u = d
  done : ∀ t u, t < n → N[t]? = some u → cc u ∈ C
  one : ∀ d, Cs G cc (cc i) d → ∃ u ∈ N, cc u = d
  more : ∀ c ∈ C, ∀ d, Cs G cc c d → ∃ u ∈ N, cc u = d
  le : n ≤ N.length
  few : N.length ≤ 8 * (1 + C.length)
theorem CmI.clen (h : CmI G cc i C N n) : C.length ≤ G.length := by
  have := nodup_sub (L := (List.range G.length).map cc) h.nd fun d hd => by
    obtain ⟨t, u, _, hu, rfl⟩ := h.from_ d hd
    exact List.mem_map_of_mem (List.mem_range.2 (h.come u (List.mem_of_getElem? hu)).1)
  simpa using this
theorem CmI.end_ (h : CmI G cc i C N n) (hn : n = N.length) (d : Nat) : d ∈ C ↔ Cp G cc (cc i) d := by
  have key : ∀ u ∈ N, cc u ∈ C := fun u hu => by
    obtain ⟨t, ht, rfl⟩ := List.getElem_of_mem hu
    exact h.done t _ (by omega) (List.getElem?_eq_getElem ht)
  constructor
  · intro hd
    obtain ⟨t, u, _, hu, rfl⟩ := h.from_ d hd
    exact (h.come u (List.mem_of_getElem? hu)).2
  · intro hp
    obtain ⟨c, hc⟩ : ∃ c, cc i = c := ⟨_, rfl⟩
    rw [hc] at hp
    have hone := h.one
    rw [hc] at hone
    clear hc
    induction hp with
    | one s =>
      obtain ⟨u, hu, rfl⟩ := hone _ s
      exact key u hu
    | more _ s ih =>
      obtain ⟨u, hu, rfl⟩ := h.more _ ih _ s
      exact key u hu
theorem CmI.start (hB : Both G col ro kn E cc) (hg : Gp G) (hi : i < G.length) {P : List Nat} (hP : NextIs G cc i P) : CmI G cc i [] P 0 := by
  refine ⟨fun u hu => ?_, by simp, (fun d hd => by cases hd), (fun t u ht => by omega), fun d hd => (hP.all hB hi d).1 hd, (fun c hc => by cases hc), Nat.zero_le _, ?_⟩
  · have h1 := (hP.all hB hi (cc u)).2 ⟨u, hu, rfl⟩
    refine ⟨?_, .one h1⟩
    rcases hP with ⟨k, p, h1, h2, h3, rfl⟩ | ⟨_, rfl⟩
    · exact hB.rc.parts k p h1 u hu
    · cases hu
  · rcases hP with ⟨k, p, h1, h2, h3, rfl⟩ | ⟨_, rfl⟩
    · exact (hg p (List.mem_of_getElem? h1)).1
    · simp
theorem CmI.skip (h : CmI G cc i C N n) (hn : n < N.length) {u : Nat} (hu : N[n]? = some u) (hc : cc u ∈ C) : CmI G cc i C N (n + 1) :=
  ⟨h.come, h.nd, fun d hd => by obtain ⟨t, v, a, b⟩ := h.from_ d hd; exact ⟨t, v, by omega, b⟩, fun t v ht hv => by
    rcases Nat.lt_or_ge t n with h1 | h1
    · exact h.done t v h1 hv
    · obtain rfl : t = n := by omega
      rw [hu] at hv
      cases hv
      exact hc, h.one, h.more, hn, h.few⟩
theorem CmI.take (hB : Both G col ro kn E cc) (hg : Gp G) (h : CmI G cc i C N n) (hn : n < N.length) {u : Nat} (hu : N[n]? = some u) (hc : cc u ∉ C) {P : List Nat} (hP : NextIs G cc u P) : CmI G cc i (C ++ [cc u]) (N ++ P) (n + 1) := by
  have hul := h.come u (List.mem_of_getElem? hu)
  refine ⟨fun v hv => ?_, ?_, fun d hd => ?_, fun t v ht hv => ?_, fun d hd => ?_, fun c hcm d hd => ?_, ?_, ?_⟩
  · rcases List.mem_append.1 hv with hv | hv
    · exact h.come v hv
    · refine ⟨?_, .more hul.2 ((hP.all hB hul.1 (cc v)).2 ⟨v, hv, rfl⟩)⟩
      rcases hP with ⟨k, p, h1, h2, h3, rfl⟩ | ⟨_, rfl⟩
      · exact hB.rc.parts k p h1 v hv
      · cases hv
  · rw [List.nodup_append]
    exact ⟨h.nd, by simp, fun a ha b hb e => hc (by simp at hb; rw [← hb, ← e]; exact ha)⟩
  · rcases List.mem_append.1 hd with hd | hd
    · obtain ⟨t, v, a, b, e⟩ := h.from_ d hd
      exact ⟨t, v, by omega, by rw [List.getElem?_append_left (lt_of_get b)]; exact b, e⟩
    · obtain rfl : d = cc u := by simpa using hd
      exact ⟨n, u, by omega, by rw [List.getElem?_append_left hn]; exact hu, rfl⟩
  · rw [List.getElem?_append_left (by omega)] at hv
    rcases Nat.lt_or_ge t n with h1 | h1
    · exact List.mem_append_left _ (h.done t v h1 hv)
    · obtain rfl : t = n := by omega
      rw [hu] at hv
      cases hv
      simp
  · obtain ⟨v, hv, e⟩ := h.one d hd
    exact ⟨v, List.mem_append_left _ hv, e⟩
  · rcases List.mem_append.1 hcm with hcm | hcm
    · obtain ⟨v, hv, e⟩ := h.more c hcm d hd
      exact ⟨v, List.mem_append_left _ hv, e⟩
    · obtain rfl : c = cc u := by simpa using hcm
      obtain ⟨v, hv, e⟩ := (hP.all hB hul.1 d).1 hd
      exact ⟨v, List.mem_append_right _ hv, e⟩
  · rw [List.length_append]; omega
  · have hp8 : P.length ≤ 8 := by
      rcases hP with ⟨k, p, h1, h2, h3, rfl⟩ | ⟨_, rfl⟩
      · exact (hg p (List.mem_of_getElem? h1)).1
      · simp
    have := h.few
    rw [List.length_append, List.length_append, List.length_singleton]
    omega
def CmPost (G : List Gn) (cc : Nat → Nat) (i : Nat) (w : World) (x : Ending) (w' : World) : Prop := ∃ v C, x = .returned v ∧ w'.ownsRow w.heap.size 3 1 v C.length (nums C) ∧ (∀ d, d ∈ C ↔ Cp G cc (cc i) d) ∧ C.length ≤ G.length ∧ Below w.heap.size w w'
theorem nums_get {L : List Nat} {j x : Nat} (h : L[j]? = some x) : (nums L)[j]? = some (.int .i64 (x : Nat)) := by simp [nums, ints, toI, h]
theorem RdD.get1 {Dp : Nat → Prop} {W : World} {A : Option Addr} {m c : Nat} {L : List Nat} (h : RdD Dp W 1 (.slice A m c) L.length (nums L)) {j x : Nat} (hx : L[j]? = some x) : ∃ b off, A = some ⟨b, off, none⟩ ∧ L.length ≤ c ∧ b < W.heap.size ∧ Dp b ∧ W.cell? ⟨b, off + j, none⟩ = some (.int .i64 (x : Nat)) := by
  have hj := lt_of_get hx
  obtain ⟨b, off, cap, hv, hnc, _, hlt, hc⟩ := h.1.2.resolve_left (by rintro ⟨h, _⟩; omega)
  have hd := h.2 (by omega) b off cap hv
  injection hv with e1 e2 e3
  exact ⟨b, off, e1, by omega, hlt, hd, hc j _ (nums_get hx)⟩
set_option maxHeartbeats 16000000 in
theorem comes_any (hB : Both G col ro kn E cc) (hg : Gp G) (h : An3 D B w vm vs M G cc) (hl : G.length ≤ 10000) (hi : i < G.length) :
    Calls Tryz.prog 17 #[.agg #[vm, vs], .int .i64 (i : Nat)] w (CmPost G cc i w) := by
  have hlen := h.len
  have hvb : ∀ k, vs.ownBlock = some k → k < w.heap.size := fun k hk => (h.col.lt k hk).2
  obtain ⟨Am, cm, rfl⟩ := h.row.form
  obtain ⟨As, cs, rfl, _, _⟩ := Un.own_form h.col
  obtain ⟨Q, hQ⟩ : ∃ Q, M.length = Q := ⟨_, rfl⟩
  rw [hQ] at h hlen hvb ⊢
  obtain ⟨w0, hw0⟩ : ∃ w0, w.alloc (.cells #[.slice Am Q cm, .slice As Q cs] 33) = w0 := ⟨_, rfl⟩
  have hb0 : Below w.heap.size w w0 := by rw [← hw0]; exact (Below.refl _ _).alloc (Nat.le_refl _) _
  have hx0 : w0.heap[w.heap.size]? = some (.cells #[.slice Am Q cm, .slice As Q cs] 33) := by rw [← hw0]; exact heap_alloc_new _ _
  have hAn : An3 (fun b => b < w0.heap.size) B w0 (.slice Am Q cm) (.slice As Q cs) M G cc := by
    have h0 := h.below hb0
    exact ⟨h0.row.imp fun b hb _ => hb, fun x hx => (h0.nodes x hx).imp fun b hb _ => hb, h0.col, h0.lens, h0.gm⟩
  have HNX := Lib.hid (next_any hAn (by omega) hi)
  have HAN : Hid (∀ W, Below w0.heap.size w0 W → An3 (fun b => b < w0.heap.size) B W (.slice Am Q cm) (.slice As Q cs) M G cc) := Lib.hid fun W hW => hAn.to (S := fun k => w0.heap.size ≤ k) ⟨hW.os, hW.tape, hW.output, hW.size, fun k _ hk => hW.block k (by omega)⟩ (fun k hk hd => by omega) (fun k hk e => by have h1 := hvb k e; have h2 := hb0.size; omega)
  have x0 : w0.cell? ⟨w.heap.size, 0, none⟩ = some (.slice Am Q cm) := cell_of_row w0 _ 0 _ _ (0, 0) hx0
  have x1 : w0.cell? ⟨w.heap.size, 1, none⟩ = some (.slice As Q cs) := cell_of_row w0 _ 1 _ _ (0, 0) hx0
  have H := Lib.hid (And.intro (h.below hb0) (And.intro hb0 (And.intro hx0 (And.intro hlen (And.intro hl (And.intro hi (And.intro hB (And.intro hg hQ))))))))
  have HW0 := Lib.hid hw0
  clear h hb0 hx0 hlen hw0 hl hi hB hg hQ hAn hvb
  go_enter Tryz.func17, Tryz.ntmps17
  go_upto_region 2 with fail
  rw [HW0.out]
  go_wp2_with fail
  refine HNX.out.mono ?_
  clear HNX
  rintro x w1 ⟨⟨v1, P1, rfl, hr1, hn1⟩, hb1⟩
  obtain ⟨A1, c1, rfl⟩ := hr1.form
  have hst := CmI.start H.out.2.2.2.2.2.2.1 H.out.2.2.2.2.2.2.2.1 H.out.2.2.2.2.2.1 hn1
  have H1 := Lib.hid (And.intro hr1 (And.intro hst hb1))
  clear hr1 hn1 hst hb1 x0 x1
  go_wp2_with fail
  go_loopg [5, 6, 7, 8, 9] (8 * (1 + G.length) + 1) (fun nn s5 s6 s7 _ _ wr => ∃ (C N : List Nat) (n : Nat), s7 = .int .i64 (n : Nat) ∧ wr.ownsRow w0.heap.size 3 1 s5 C.length (nums C) ∧ RdD (fun b => s5.ownBlock ≠ some b) wr 1 s6 N.length (nums N) ∧ CmI G cc i C N n ∧ 8 * (1 + G.length) + 1 ≤ n + nn ∧ Below w0.heap.size w0 wr)
  case atStart => exact ⟨[], P1, 0, rfl, World.ownsRow_nil _ _ _ _, H1.out.1.imp (fun b _ _ h => by cases h), H1.out.2.1, by omega, H1.out.2.2⟩
  case round =>
    obtain ⟨C, N, n, rfl, hc, hn, hI, hnn, hb⟩ := hrel
    obtain ⟨Ac, cc_, rfl, _, _⟩ := Un.own_form hc
    obtain ⟨An, cn, rfl⟩ := hn.form
    have hCl := hI.clen
    have hfew := hI.few
    have hnle := hI.le
    have hG := H.out.2.2.2.2.1
    have HI := Lib.hid (And.intro hc (And.intro hn (And.intro hI (And.intro hnn (And.intro hb (And.intro hCl hfew))))))
    obtain ⟨qc, hqc⟩ : ∃ q, C.length = q := ⟨_, rfl⟩
    obtain ⟨qn, hqn⟩ : ∃ q, N.length = q := ⟨_, rfl⟩
    rw [hqc] at hCl hfew ⊢
    rw [hqn] at hfew hnle ⊢
    have hqcb : qc ≤ 10000 := by omega
    have hqnb : qn ≤ 100000 := by omega
    have hnb : n ≤ 100000 := by omega
    have HQ := Lib.hid (And.intro hqc hqn)
    clear hc hn hI hnn hb hCl hfew hqc hqn hG
    by_cases hlt : n < qn
    · have f1 : decide ((n : Int) < (qn : Int)) = true := decide_eq_true (by omega)
      have f2 : decide (n < qn) = true := decide_eq_true hlt
      obtain ⟨u, hu⟩ : ∃ u, N[n]? = some u := ⟨_, List.getElem?_eq_getElem (by rw [HQ.out.2]; exact hlt)⟩
      have HU := Lib.hid (And.intro hu hlt)
      have hcol := H.out.1.col
      rw [H.out.2.2.2.2.2.2.2.2] at hcol
      obtain ⟨bs, cs_, hsh, _, hbsl⟩ := Un.own_shape hcol (by have := H.out.2.2.2.1; have := H.out.2.2.2.2.2.1; omega)
      injection hsh with hA1 hA2 hcc1
      subst hA1
      clear hA2 hcc1
      obtain ⟨gA, rfl⟩ : ∃ g : Nat, g = gk := ⟨_, rfl⟩
      obtain ⟨wo, rfl⟩ : ∃ wo : World, wo = wr := ⟨_, rfl⟩
      have hul := HI.out.2.2.1.come u (List.mem_of_getElem? hu)
      obtain ⟨bn, offn, hAn, hncn, hbn, hbnD, cn0⟩ := HI.out.2.1.get1 hu
      rw [HQ.out.2] at hncn
      subst hAn
      have hcs : w0.cell? ⟨bs, u, none⟩ = some (.int .i64 (cc u : Nat)) := (hcol.cellAt u (by have := hul.1; have := H.out.2.2.2.1; omega)).trans (rowI_get (by have := hul.1; have := H.out.2.2.2.1; omega))
      have hx0l := (Array.getElem?_eq_some_iff.1 H.out.2.2.1).1
      have huQ : u < Q := by have := hul.1; have := H.out.2.2.2.1; omega
      obtain ⟨OB, hOB⟩ : ∃ o, (Value.slice Ac qc cc_).ownBlock = o := ⟨_, rfl⟩
      have hOBl : ∀ k, OB = some k → w0.heap.size ≤ k := fun k hk => by
        have := HI.out.1.lt k (by rw [HQ.out.1, hOB]; exact hk)
        exact this.1
      have hbnO : OB ≠ some bn := by
        have := hbnD
        rw [HQ.out.1, hOB] at this
        exact this
      have FX : Hid (∀ W, Else (fun k => OB = some k) wo W → W.cell? ⟨bn, offn + n, none⟩ = some (.int .i64 (u : Nat)) ∧ W.cell? ⟨bs, u, none⟩ = some (.int .i64 (cc u : Nat)) ∧ W.cell? ⟨w.heap.size, 1, none⟩ = some (.slice (some ⟨bs, 0, none⟩) Q cs) ∧ W.cell? ⟨w.heap.size, 0, none⟩ = some (.slice Am Q cm)) := Lib.hid fun W hW => by
        have hb : ∀ k, k < w0.heap.size → W.heap[k]? = w0.heap[k]? := fun k hk => (hW.block k (Nat.lt_of_lt_of_le hk HI.out.2.2.2.2.1.size) fun e => by have := hOBl k e; omega).trans (HI.out.2.2.2.2.1.block k hk)
        have hx := (hb _ hx0l).trans H.out.2.2.1
        have e1 := cell_of_row W _ 1 _ _ (0, 0) hx
        have e0 := cell_of_row W _ 0 _ _ (0, 0) hx
        exact ⟨(World.cell?_of_block (hW.block bn hbn fun e => hbnO e)).trans cn0, (World.cell?_of_block (hb bs (hcol.lt bs rfl).2)).trans hcs, e1, e0⟩
      have HV := Lib.hid (And.intro hul (And.intro huQ (And.intro hOB (And.intro hOBl hbnO))))
      clear hul cn0 hcs hx0l hbsl hu hcol hOB hOBl hbnO hbnD
      go_wp2_with fail
      go_loopg [8, 9] qc (fun nn s8 s9 wi => ∃ (k : Nat) (b : Bool), s9 = .int .i64 (k : Nat) ∧ k ≤ qc ∧ qc ≤ k + nn ∧ s8 = .bool b ∧ (b = true ↔ cc u ∈ C.take k) ∧ Below wo.heap.size wo wi)
      case atStart => exact ⟨0, false, rfl, Nat.zero_le _, by omega, rfl, by simp, Below.refl _ _⟩
      case round =>
        obtain ⟨k, b, rfl, hk, hkn, rfl, hbk, hbw⟩ := hrel
        have HKB := Lib.hid (And.intro hbk (And.intro hbw hkn))
        clear hbk hbw hkn
        obtain ⟨y0, y1, y2, _⟩ := FX.out wr (Else.of_below HKB.out.2.1)
        by_cases hkl : k < qc
        · have g1 : decide ((k : Int) < (qc : Int)) = true := decide_eq_true (by omega)
          have g2 : decide (k < qc) = true := decide_eq_true hkl
          obtain ⟨d, hd⟩ : ∃ d, C[k]? = some d := ⟨_, List.getElem?_eq_getElem (by rw [HQ.out.1]; exact hkl)⟩
          obtain ⟨bo, co_, hsh2, _, hbo⟩ := Un.own_shape HI.out.1 (by rw [HQ.out.1]; omega)
          injection hsh2 with hA1 hA2 hcc1
          subst hA1
          clear hA2 hcc1
          have y3 : wr.cell? ⟨bo, k, none⟩ = some (.int .i64 (d : Nat)) := (HKB.out.2.1.cell (p := ⟨bo, k, none⟩) hbo).trans ((HI.out.1.cellAt k (by have := HQ.out.1; omega)).trans (nums_get hd))
          have hstep : ∀ b', (b' = true ↔ (b = true ∨ d = cc u)) → (b' = true ↔ cc u ∈ C.take (k + 1)) := fun b' h => by
            rw [h, HKB.out.1, List.take_add_one, hd]
            simp [eq_comm]
          have HST := Lib.hid (And.intro hstep hkl)
          clear hstep hd hbo
          cases b with
          | true =>
            go_wp2_with fail
            go_quiet (fail)
            go_wp2_with fail
            go_roundg (qc - (k + 1))
            case rel => exact ⟨k + 1, true, by go_num, HST.out.2, by omega, rfl, HST.out.1 true (by simp), HKB.out.2.1.trans ⟨rfl, rfl, rfl, Nat.le_refl _, fun _ _ => rfl⟩⟩
            case measure => have h1 := HKB.out.2.2; have h2 := HST.out.2; omega
          | false =>
            by_cases hdc : d = cc u
            · have g3 : ((d : Int) == (cc u : Int)) = true := by rw [hdc]; simp
              have g4 : (d == cc u) = true := by rw [hdc]; simp
              have HDC := Lib.hid hdc
              clear hdc
              go_wp2_with fail
              go_quiet (fail)
              go_wp2_with fail
              go_roundg (qc - (k + 1))
              case rel => exact ⟨k + 1, true, by go_num, HST.out.2, by omega, rfl, HST.out.1 true (by simp [HDC.out]), HKB.out.2.1.trans ⟨rfl, rfl, rfl, Nat.le_refl _, fun _ _ => rfl⟩⟩
              case measure => have h1 := HKB.out.2.2; have h2 := HST.out.2; omega
            · have g3 : ((d : Int) == (cc u : Int)) = false := by simp; omega
              have g4 : (d == cc u) = false := by simpa using hdc
              have HDC := Lib.hid hdc
              clear hdc
              go_wp2_with fail
              go_quiet (fail)
              go_wp2_with fail
              go_roundg (qc - (k + 1))
              case rel => exact ⟨k + 1, false, by go_num, HST.out.2, by omega, rfl, HST.out.1 false (by simp [HDC.out]), HKB.out.2.1.trans ⟨rfl, rfl, rfl, Nat.le_refl _, fun _ _ => rfl⟩⟩
              case measure => have h1 := HKB.out.2.2; have h2 := HST.out.2; omega
        · have g1 : decide ((k : Int) < (qc : Int)) = false := decide_eq_false (by omega)
          have g2 : decide (k < qc) = false := decide_eq_false hkl
          have hbk : b = true ↔ cc u ∈ C := by
            have h1 := HKB.out.1
            rw [List.take_of_length_le (by have := HQ.out.1; omega)] at h1
            exact h1
          have hwr := HKB.out.2.1
          have HBK := Lib.hid hbk
          clear hbk hkl hk
          cases b with
          | true =>
            go_wp2_with fail
            go_roundg (8 * (1 + G.length) + 1 - (n + 1))
            case rel =>
              refine ⟨C, N, n + 1, by go_num, ?_, ?_, HI.out.2.2.1.skip (by rw [HQ.out.2]; exact HU.out.2) HU.out.1 (HBK.out.1 (by trivial)), by omega, HI.out.2.2.2.2.1.trans (hwr.mono HI.out.2.2.2.2.1.size)⟩
              · rw [← HQ.out.1]; exact own_below HI.out.1 hwr
              · rw [← HQ.out.1, ← HQ.out.2]; exact HI.out.2.1.to hwr.size fun b _ hlt => hwr.block b hlt
            case measure => have h1 := HI.out.2.2.2.1; have h2 := HI.out.2.2.2.2.2.2; have h3 := HI.out.2.2.2.2.2.1; have h4 := HU.out.2; have h5 := HQ.out.2; omega
          | false =>
            have hnc : cc u ∉ C := fun h => by have := HBK.out.2 h; cases this
            have HNC := Lib.hid hnc
            clear hnc
            go_wp2_with fail
            obtain ⟨v5, w5, hrun5, ho5, hg5, hat5⟩ := app_part wr.drew w0.heap.size (.slice Ac C.length cc_) C (own_below HI.out.1 (hwr.trans ((Below.refl _ wr).drew.mono hwr.size))) (by have := HQ.out.1; omega) (Nat.le_trans HI.out.2.2.2.2.1.size hwr.size) (cc u)
            rw [HQ.out.1] at hrun5 hg5 hat5
            obtain ⟨A5, c5, rfl, _, _⟩ := Un.own_form ho5
            have hq5 : (C ++ [cc u]).length = qc + 1 := by rw [List.length_append, HQ.out.1]; rfl
            rw [hq5] at hrun5 ho5 hat5
            have hOB := HV.out.2.2.1
            have hE5 : Else (fun k => OB = some k) wr w5 := ((Un.Else.drew (Else.refl _ _)).trans (Else.alloc _ _ _)).trans (Else.grown hg5 fun k hk => by rw [← hOB]; exact hk)
            have hEo : Else (fun k => OB = some k) wo wr := Else.of_below hwr
            have hS : Else (fun k => OB = some k) wo wr.drew := hEo.trans (Un.Else.drew (Else.refl _ _))
            have hSa : Else (fun k => OB = some k) wo (wr.drew.alloc (.cells #[.int .i64 (cc u : Nat)] 3)) := hS.trans (Else.alloc _ _ _)
            have hS5 : Else (fun k => OB = some k) wo w5 := hEo.trans hE5
            have hnq := HU.out.2
            have huQ := HV.out.2.1
            refine wp_region_held (S := (fun W => Else (fun k => OB = some k) wo W)) (by kernel_rfl) ?_
            change wpAnyH _ _ _ _ _ 12 (List.replicate 12 false).toArray _ wr.drew
            simp only [List.replicate_succ, List.replicate_zero]
            refine any_take (i := 0) (some 43) (.slice Ac qc cc_) rfl (by rfl) (by kernel_rfl) (by kernel_rfl) (by kernel_rfl) (fun _ _ _ h => h) (Or.inl ⟨by kernel_rfl, (fun W hw => by clear hw; go_simp)⟩) hS ?_
            simp only [Act.put, List.setIfInBounds_toArray, List.set_cons_zero, List.set_cons_succ]
            refine any_take (i := 1) (some 44) (.pointer (some ⟨w.heap.size, 1, none⟩)) rfl (by rfl) (by kernel_rfl) (by kernel_rfl) (by kernel_rfl) (fun _ _ _ h => h) (Or.inl ⟨by kernel_rfl, (fun W hw => by clear hw; go_simp)⟩) hS ?_
            simp only [Act.put, List.setIfInBounds_toArray, List.set_cons_zero, List.set_cons_succ]
            refine any_take (i := 2) (some 45) (.slice (some ⟨bs, 0, none⟩) Q cs) rfl (by rfl) (by kernel_rfl) (by kernel_rfl) (by kernel_rfl) (fun _ _ _ h => h) (Or.inl ⟨by kernel_rfl, (fun W hw => by obtain ⟨n0_, n1_, n2_, n3_⟩ := FX.out W hw; clear hw; go_simp)⟩) hS ?_
            simp only [Act.put, List.setIfInBounds_toArray, List.set_cons_zero, List.set_cons_succ]
            refine any_take (i := 3) (some 46) (.slice (some ⟨bn, offn, none⟩) qn cn) rfl (by rfl) (by kernel_rfl) (by kernel_rfl) (by kernel_rfl) (fun _ _ _ h => h) (Or.inl ⟨by kernel_rfl, (fun W hw => by clear hw; go_simp)⟩) hS ?_
            simp only [Act.put, List.setIfInBounds_toArray, List.set_cons_zero, List.set_cons_succ]
            refine any_take (i := 4) (some 47) (.int .i64 (n : Nat)) rfl (by rfl) (by kernel_rfl) (by kernel_rfl) (by kernel_rfl) (fun _ _ _ h => h) (Or.inl ⟨by kernel_rfl, (fun W hw => by clear hw; go_simp)⟩) hS ?_
            simp only [Act.put, List.setIfInBounds_toArray, List.set_cons_zero, List.set_cons_succ]
            refine any_take (i := 5) (some 48) (.pointer (some ⟨bn, offn + n, none⟩)) rfl (by rfl) (by kernel_rfl) (by kernel_rfl) (by kernel_rfl) (fun _ _ _ h => h) (Or.inl ⟨by kernel_rfl, (fun W hw => by clear hw; go_simp)⟩) hS ?_
            simp only [Act.put, List.setIfInBounds_toArray, List.set_cons_zero, List.set_cons_succ]
            refine any_take (i := 6) (some 49) (.int .i64 (u : Nat)) rfl (by rfl) (by kernel_rfl) (by kernel_rfl) (by kernel_rfl) (fun _ _ _ h => h) (Or.inl ⟨by kernel_rfl, (fun W hw => by obtain ⟨n0_, n1_, n2_, n3_⟩ := FX.out W hw; clear hw; go_simp)⟩) hS ?_
            simp only [Act.put, List.setIfInBounds_toArray, List.set_cons_zero, List.set_cons_succ]
            refine any_take (i := 7) (some 50) (.pointer (some ⟨bs, u, none⟩)) rfl (by rfl) (by kernel_rfl) (by kernel_rfl) (by kernel_rfl) (fun _ _ _ h => h) (Or.inl ⟨by kernel_rfl, (fun W hw => by clear hw; go_simp)⟩) hS ?_
            simp only [Act.put, List.setIfInBounds_toArray, List.set_cons_zero, List.set_cons_succ]
            refine any_take (i := 8) (some 51) (.int .i64 (cc u : Nat)) rfl (by rfl) (by kernel_rfl) (by kernel_rfl) (by kernel_rfl) (fun _ _ _ h => h) (Or.inl ⟨by kernel_rfl, (fun W hw => by obtain ⟨n0_, n1_, n2_, n3_⟩ := FX.out W hw; clear hw; go_simp)⟩) hS ?_
            simp only [Act.put, List.setIfInBounds_toArray, List.set_cons_zero, List.set_cons_succ]
            refine wpAnyH_all (rs := [9]) (by kernel_rfl) (by simp) fun q' hq' => ?_
            obtain rfl : q' = 9 := by simpa using hq'
            refine ops_val (d := some 52) (v := .slice (some ⟨wr.drew.heap.size, 0, none⟩) 1 1) (w' := wr.drew.alloc (.cells #[.int .i64 (cc u : Nat)] 3)) rfl (by rfl) (by kernel_rfl) (by clear hS hSa hS5 hE5 hEo; go_simp) hSa ?_
            simp only [Act.put, List.setIfInBounds_toArray, List.set_cons_zero, List.set_cons_succ]
            refine wpAnyH_all (rs := [10]) (by kernel_rfl) (by simp) fun q' hq' => ?_
            obtain rfl : q' = 10 := by simpa using hq'
            refine ops_val (d := some 53) (v := .slice A5 (qc + 1) c5) (w' := w5) rfl (by rfl) (by kernel_rfl) (exec_app (.tmp 43) (.tmp 52) 30 rfl hrun5 (by rfl) (by rfl)) hS5 ?_
            simp only [Act.put, List.setIfInBounds_toArray, List.set_cons_zero, List.set_cons_succ]
            refine any_take (i := 11) (some 5) (.slice A5 (qc + 1) c5) rfl (by rfl) (by kernel_rfl) (by kernel_rfl) (by kernel_rfl) (fun _ _ _ h => h) (Or.inl ⟨by kernel_rfl, (fun W hw => by clear hw; go_simp)⟩) hS5 ?_
            simp only [Act.put, List.setIfInBounds_toArray, List.set_cons_zero, List.set_cons_succ]
            refine wpAnyH_done (by kernel_rfl) ?_ _
            have hbl5 : Below w0.heap.size w0 w5 := HI.out.2.2.2.2.1.trans (hS5.below (fun k hk => HV.out.2.2.2.1 k hk) HI.out.2.2.2.2.1.size)
            have hN5 : RdD (fun b => (Value.slice A5 (qc + 1) c5).ownBlock ≠ some b) w5 1 (.slice (some ⟨bn, offn, none⟩) N.length cn) N.length (nums N) := by
              have h1 := HI.out.2.1
              rw [HQ.out.1, hOB] at h1
              refine (h1.imp (D' := fun b => OB ≠ some b ∧ b < wo.heap.size) fun b hb hd => ⟨hd, hb⟩).to hS5.size (fun b hd hlt => hS5.block b hlt fun e => hd.1 e) |>.imp fun b _ hd e => ?_
              rcases hat5 with h2 | h2
              · rw [h2, hOB] at e
                exact hd.1 e
              · rw [h2] at e
                injection e with e
                have h3 := hwr.size
                have h4 : wr.drew.heap.size = wr.heap.size := rfl
                have h5 := hd.2
                omega
            have hbn5 : bn < w5.heap.size := Nat.lt_of_lt_of_le hbn hS5.size
            have hy := FX.out w5 hS5
            have H5 := Lib.hid (And.intro ho5 (And.intro hbl5 (And.intro hN5 (And.intro hq5 (And.intro hbn5 hy)))))
            clear hrun5 ho5 hg5 hat5 hE5 hEo hS hSa hS5 hbl5 hN5 hOB hq5 hnq huQ hbn5 hy y0 y1 y2 f1 f2
            go_wp2_with fail
            have hb5 := H5.out.2.1
            have hAn5 := HAN.out w5 hb5
            obtain ⟨wa, hwa⟩ : ∃ wa, w5.drew.alloc (.cells #[] 3) = wa := ⟨_, rfl⟩
            have hba : Below w5.heap.size w5 wa := by rw [← hwa]; exact (Below.refl _ _).drew.alloc (Nat.le_refl _) _
            have howa : wa.ownsRow w5.heap.size 3 1 (.slice (some ⟨w5.drew.heap.size, 0, none⟩) 0 0) ([] : List Int).length (ints []) := by rw [← hwa]; exact own_none_yet w5.drew w5.heap.size (Nat.le_refl _) _ _
            have hNa : Rd wa 1 (.slice (some ⟨bn, offn, none⟩) N.length cn) (toI N).length (ints (toI N)) := by rw [toI_len]; exact H5.out.2.2.1.1.below hba
            obtain ⟨vb, wb, hrunb, hob, hbb, -, hgb, hatb⟩ := app_int wa w5.heap.size _ [] howa _ (toI N) hNa (by rw [toI_len]; have := HQ.out.2; simp; omega) hba.size
            rw [List.nil_append, toI_len] at hob
            obtain ⟨Ab, cb_, rfl, _, _⟩ := Un.own_form hob
            have hbb5 : Below w5.heap.size w5 wb := hba.trans hbb
            have HNX := Lib.hid (next_any (HAN.out wb (hb5.trans (hbb5.mono hb5.size))) (by have := H.out.2.2.2.2.1; omega) HV.out.1.1)
            rw [HQ.out.2] at hrunb hob
            have EX : Hid (∀ W, Below w5.heap.size w5 W → W.cell? ⟨bn, offn + n, none⟩ = some (.int .i64 (u : Nat)) ∧ W.cell? ⟨w.heap.size, 0, none⟩ = some (.slice Am Q cm) ∧ W.cell? ⟨w.heap.size, 1, none⟩ = some (.slice (some ⟨bs, 0, none⟩) Q cs)) := Lib.hid fun W hW => by
              obtain ⟨e0, e1, e2, e3⟩ := H5.out.2.2.2.2.2
              have hl : w.heap.size < w5.heap.size := Nat.lt_of_lt_of_le (Array.getElem?_eq_some_iff.1 H.out.2.2.1).1 hb5.size
              exact ⟨(hW.cell (p := ⟨bn, offn + n, none⟩) H5.out.2.2.2.2.1).trans e0, (hW.cell (p := ⟨w.heap.size, 0, none⟩) hl).trans e3, (hW.cell (p := ⟨w.heap.size, 1, none⟩) hl).trans e2⟩
            have hS : Below w5.heap.size w5 w5.drew := (Below.refl _ _).drew
            have hnq := HU.out.2
            refine wp_region_held (S := (fun W => Below w5.heap.size w5 W)) (by kernel_rfl) ?_
            change wpAnyH _ _ _ _ _ 11 (List.replicate 11 false).toArray _ w5.drew
            simp only [List.replicate_succ, List.replicate_zero]
            refine any_take (i := 1) (some 55) (.slice (some ⟨bn, offn, none⟩) qn cn) rfl (by rfl) (by kernel_rfl) (by kernel_rfl) (by kernel_rfl) (fun _ _ _ h => h) (Or.inl ⟨by kernel_rfl, (fun W hw => by clear hw; go_simp)⟩) hS ?_
            simp only [Act.put, List.setIfInBounds_toArray, List.set_cons_zero, List.set_cons_succ]
            refine any_take (i := 3) (some 57) (.agg #[.slice Am Q cm, .slice (some ⟨bs, 0, none⟩) Q cs]) rfl (by rfl) (by kernel_rfl) (by kernel_rfl) (by kernel_rfl) (fun _ _ _ h => h) (Or.inl ⟨by kernel_rfl, (fun W hw => by obtain ⟨n0_, n1_, n2_⟩ := EX.out W hw; clear hw; go_simp)⟩) hS ?_
            simp only [Act.put, List.setIfInBounds_toArray, List.set_cons_zero, List.set_cons_succ]
            refine any_take (i := 4) (some 58) (.slice (some ⟨bn, offn, none⟩) qn cn) rfl (by rfl) (by kernel_rfl) (by kernel_rfl) (by kernel_rfl) (fun _ _ _ h => h) (Or.inl ⟨by kernel_rfl, (fun W hw => by clear hw; go_simp)⟩) hS ?_
            simp only [Act.put, List.setIfInBounds_toArray, List.set_cons_zero, List.set_cons_succ]
            refine any_take (i := 5) (some 59) (.int .i64 (n : Nat)) rfl (by rfl) (by kernel_rfl) (by kernel_rfl) (by kernel_rfl) (fun _ _ _ h => h) (Or.inl ⟨by kernel_rfl, (fun W hw => by clear hw; go_simp)⟩) hS ?_
            simp only [Act.put, List.setIfInBounds_toArray, List.set_cons_zero, List.set_cons_succ]
            refine any_take (i := 6) (some 60) (.pointer (some ⟨bn, offn + n, none⟩)) rfl (by rfl) (by kernel_rfl) (by kernel_rfl) (by kernel_rfl) (fun _ _ _ h => h) (Or.inl ⟨by kernel_rfl, (fun W hw => by clear hw; go_simp)⟩) hS ?_
            simp only [Act.put, List.setIfInBounds_toArray, List.set_cons_zero, List.set_cons_succ]
            refine any_take (i := 7) (some 61) (.int .i64 (u : Nat)) rfl (by rfl) (by kernel_rfl) (by kernel_rfl) (by kernel_rfl) (fun _ _ _ h => h) (Or.inl ⟨by kernel_rfl, (fun W hw => by obtain ⟨n0_, n1_, n2_⟩ := EX.out W hw; clear hw; go_simp)⟩) hS ?_
            simp only [Act.put, List.setIfInBounds_toArray, List.set_cons_zero, List.set_cons_succ]
            refine wpAnyH_all (rs := [0]) (by kernel_rfl) (by simp) fun q' hq' => ?_
            obtain rfl : q' = 0 := by simpa using hq'
            refine ops_val (d := some 54) (v := .slice (some ⟨w5.drew.heap.size, 0, none⟩) 0 0) (w' := wa) rfl (by rfl) (by kernel_rfl) (by rw [← hwa]; clear hS hba hbb hbb5 howa hNa hob EX; go_simp) hba ?_
            simp only [Act.put, List.setIfInBounds_toArray, List.set_cons_zero, List.set_cons_succ]
            refine wpAnyH_all (rs := [2]) (by kernel_rfl) (by simp) fun q' hq' => ?_
            obtain rfl : q' = 2 := by simpa using hq'
            refine ops_val (d := some 56) (v := .slice Ab qn cb_) (w' := wb) rfl (by rfl) (by kernel_rfl) (exec_app (.tmp 54) (.tmp 55) 30 rfl hrunb (by rfl) (by rfl)) hbb5 ?_
            simp only [Act.put, List.setIfInBounds_toArray, List.set_cons_zero, List.set_cons_succ]
            refine wpAnyH_all (rs := [8]) (by kernel_rfl) (by simp) fun q' hq' => ?_
            obtain rfl : q' = 8 := by simpa using hq'
            refine ops_call (d := some 62) rfl (by rfl) (by kernel_rfl) (by go_simp) (HNX.out.mono ?_)
            rintro y wc ⟨⟨vP, P, rfl, hrP, hnP⟩, hbc⟩
            have hbc5 : Below w5.heap.size w5 wc := hbb5.trans (hbc.mono hbb5.size)
            clear HNX
            refine ⟨_, rfl, hbc5, ?_⟩
            simp only [Act.put, List.setIfInBounds_toArray, List.set_cons_zero, List.set_cons_succ]
            have hobc := own_below hob hbc
            obtain ⟨AP, cP, rfl⟩ := hrP.form
            have hobc' : wc.ownsRow w5.heap.size 3 1 (.slice Ab qn cb_) (toI N).length (ints (toI N)) := by rw [toI_len, HQ.out.2]; exact hobc
            have hrP' : Rd wc 1 (.slice AP P.length cP) (toI P).length (ints (toI P)) := by rw [toI_len]; exact hrP.1
            have hp8 : P.length ≤ 100000 := by
              have := (H.out.2.2.2.2.2.2.2.1)
              rcases hnP with ⟨k, p, h1, _, _, rfl⟩ | ⟨_, rfl⟩
              · have := (this p (List.mem_of_getElem? h1)).1; omega
              · simp
            obtain ⟨vd, wd, hrund, hod, hbd, -, hgd, hatd⟩ := app_int wc w5.heap.size _ (toI N) hobc' _ (toI P) hrP' (by rw [toI_len, toI_len]; have := HQ.out.2; omega) hbc5.size
            have hod' : wd.ownsRow w5.heap.size 3 1 vd (N ++ P).length (nums (N ++ P)) := by
              have e : toI N ++ toI P = toI (N ++ P) := by simp [toI]
              rw [e, toI_len] at hod
              exact hod
            obtain ⟨Ad, cd, rfl, _, _⟩ := Un.own_form hod'
            have hbd5 : Below w5.heap.size w5 wd := hbc5.trans hbd
            refine wpAnyH_all (rs := [9]) (by kernel_rfl) (by simp) fun q' hq' => ?_
            obtain rfl : q' = 9 := by simpa using hq'
            refine ops_val (d := some 63) (v := .slice Ad (N ++ P).length cd) (w' := wd) rfl (by rfl) (by kernel_rfl) (exec_app (.tmp 56) (.tmp 62) 30 rfl hrund (by rfl) (by rfl)) hbd5 ?_
            simp only [Act.put, List.setIfInBounds_toArray, List.set_cons_zero, List.set_cons_succ]
            refine any_take (i := 10) (some 6) (.slice Ad (N ++ P).length cd) rfl (by rfl) (by kernel_rfl) (by kernel_rfl) (by kernel_rfl) (fun _ _ _ h => h) (Or.inl ⟨by kernel_rfl, (fun W hw => by clear hw; go_simp)⟩) hbd5 ?_
            simp only [Act.put, List.setIfInBounds_toArray, List.set_cons_zero, List.set_cons_succ]
            refine wpAnyH_done (by kernel_rfl) ?_ _
            have H9 := Lib.hid (And.intro hod' (And.intro hbd5 hnP))
            clear hS hba hbb hbb5 hbc hbc5 howa hNa hob hobc hobc' hrP hrP' hod hod' hbd hbd5 hgd hatd hgb hatb hrunb hrund EX hnP hwa hnq hb5 hAn5 hp8
            obtain ⟨qd, hqd⟩ : ∃ q, (N ++ P).length = q := ⟨_, rfl⟩
            rw [hqd]
            have HQD := Lib.hid hqd
            clear hqd
            go_wp2_with fail
            go_roundg (8 * (1 + G.length) + 1 - (n + 1))
            case rel =>
              have hA5 := H5.out.1
              refine ⟨C ++ [cc u], N ++ P, n + 1, by go_num, ?_, ?_, HI.out.2.2.1.take H.out.2.2.2.2.2.2.1 H.out.2.2.2.2.2.2.2.1 (by rw [HQ.out.2]; exact HU.out.2) HU.out.1 HNC.out H9.out.2.2, by omega, H5.out.2.1.trans (H9.out.2.1.mono H5.out.2.1.size)⟩
              · rw [H5.out.2.2.2.1]; exact own_below hA5 H9.out.2.1
              · rw [← HQD.out]
                refine RdD.of_own H9.out.1 fun b hb e => ?_
                have h1 := (hA5.lt b e).2
                omega
            case measure => have h1 := HI.out.2.2.2.1; have h2 := HI.out.2.2.2.2.2.2; have h3 := HI.out.2.2.2.2.2.1; have h4 := HU.out.2; have h5 := HQ.out.2; omega
    · have f1 : decide ((n : Int) < (qn : Int)) = false := decide_eq_false (by omega)
      have f2 : decide (n < qn) = false := decide_eq_false hlt
      have hne : n = N.length := by have := HQ.out.2; omega
      have HNE := Lib.hid hne
      clear hne
      go_wp2_with fail
      refine bodyPost_ret (results_tmp rfl _ _ _) rfl ⟨_, C, rfl, ?_, HI.out.2.2.1.end_ HNE.out, HI.out.2.2.2.2.2.1, H.out.2.1.trans (HI.out.2.2.2.2.1.mono H.out.2.1.size)⟩
      rw [← HQ.out.1]
      exact own_mono HI.out.1 H.out.2.1.size
end CyWs
end Go.Proofs.YtojgiienohpaiaaGreat
