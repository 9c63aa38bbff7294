/- Texts of one proof, one behind the other. -/
import Derived.Test.YtojgiienohpaiaaGreatMgCycleFinds18
import Derived.Test.YtojgiienohpaiaaGreatMgCycleFinds17
namespace Go.Proofs.YtojgiienohpaiaaGreat
open Un (paint paint_eq cnt Rings Ker swp)
def gC (n M : Nat) (col : Nat → Nat) (i : Nat) : Nat := if i < n then col i else M + i
def gI (n : Nat) (f : Nat → Nat) (i : Nat) : Nat := if i < n then f i else i
def gK (G : List Gn) (n : Nat) (kn : Kn) : Kn := fun i => if i < n then kn i else if isV G i = true then (none, some i) else (some i, none)
theorem bound_col (n : Nat) (col : Nat → Nat) : ∃ M, ∀ i, i < n → col i < M := by
  induction n with
  | zero => exact ⟨0, fun i hi => by omega⟩
  | succ n ih =>
    obtain ⟨M, hM⟩ := ih
    refine ⟨max M (col n + 1), fun i hi => ?_⟩
    by_cases h : i < n
    · have := hM i h; omega
    · obtain rfl : i = n := by omega
      omega
section
variable {G A : List Gn} {n M : Nat} {col ro nx : Nat → Nat} {kn : Kn} {E : List (Nat × Nat)} {a b : Nat}
theorem gC_iff (hM : ∀ i, i < n → col i < M) (i j : Nat) : gC n M col i = gC n M col j ↔ i = j ∨ (i < n ∧ j < n ∧ col i = col j) := by
  unfold gC
  by_cases hi : i < n
  · have := hM i hi
    by_cases hj : j < n
    · simp only [hi, hj, if_true, true_and]
      exact ⟨.inr, fun e => e.elim (fun e => by rw [e]) id⟩
    · simp only [hi, hj, if_true, if_false, false_and, and_false, or_false]
      omega
  · by_cases hj : j < n
    · have := hM j hj
      simp only [hi, hj, if_true, if_false, false_and, or_false]
      omega
    · simp only [hi, hj, if_false, false_and, or_false]
      omega
theorem app_get {i : Nat} {p : Gn} (h : G[i]? = some p) : (G ++ A)[i]? = some p := (List.getElem?_append_left (lt_of_get h)).trans h
theorem get_before {i : Nat} {p : Gn} (hi : i < G.length) (h : (G ++ A)[i]? = some p) : G[i]? = some p := (List.getElem?_append_left hi).symm.trans h
theorem nmG_app {i : Nat} (hi : i < G.length) : nmG (G ++ A) i = nmG G i := by unfold nmG; rw [List.getElem?_append_left hi]
theorem isV_app {i : Nat} (hi : i < G.length) : isV (G ++ A) i = isV G i := by unfold isV; rw [List.getElem?_append_left hi]
theorem Js.grow (h : Js G n col ro kn E []) (hM : ∀ i, i < n → col i < M) (hp : ∀ (x : Nat) (p : Gn), (G ++ A)[x]? = some p → ∀ u ∈ p.2.2.2, u < (G ++ A).length) (ha : a < (G ++ A).length) (hb : b < (G ++ A).length) :
    Js (G ++ A) (G ++ A).length (gC n M col) (gI n ro) (gK (G ++ A) n kn) (E ++ [(a, b)]) [(a, b)] := by
  have hlen := h.len
  have hle : G.length ≤ (G ++ A).length := by simp
  have hI := gC_iff (n := n) (M := M) (col := col) hM
  have hro : ∀ i, i < n → gI n ro i = ro i := fun i hi => by simp [gI, hi]
  have hro2 : ∀ i, ¬ i < n → gI n ro i = i := fun i hi => by simp [gI, hi]
  have hkn : ∀ i, i < n → gK (G ++ A) n kn (gI n ro i) = kn (ro i) := fun i hi => by rw [hro i hi]; simp [gK, (h.rt i hi).1]
  have hkn2 : ∀ i, ¬ i < n → gK (G ++ A) n kn (gI n ro i) = if isV (G ++ A) i = true then (none, some i) else (some i, none) := fun i hi => by rw [hro2 i hi]; simp [gK, hi]
  have hV1 : ∀ (i : Nat) (p : Gn), (G ++ A)[i]? = some p → (isV (G ++ A) i = true ↔ p.1 = 1) := fun i p hi => by unfold isV; rw [hi]; simp
  have hex : ∀ i, i < (G ++ A).length → ∃ p, (G ++ A)[i]? = some p := fun i hi => ⟨_, List.getElem?_eq_getElem hi⟩
  refine ⟨h.jn.grow (fun i j hi hj => by rw [hI, hlen]) ha hb hp, rfl, ?_, ?_, fun i hi => ?_, fun i j hi hj e => ?_⟩
  · refine ⟨fun i j hi hj e => ?_, fun i p hpi hk => ?_, fun i k hi hk => ?_⟩
    · rcases (hI i j).1 e with rfl | ⟨h1, h2, h3⟩
      · rfl
      · rw [hkn i h1, hkn j h2, h.un i j h1 h2 h3]
    · by_cases hin : i < n
      · rw [hkn i hin] at hk
        exact h.md.none i p (get_before (by omega) hpi) hk
      · rw [hkn2 i hin] at hk
        by_cases hv : isV (G ++ A) i = true
        · exact (hV1 i p hpi).1 hv
        · rw [if_neg hv] at hk; cases hk
    · by_cases hin : i < n
      · rw [hkn i hin] at hk
        obtain ⟨q, h1, h2, h3⟩ := h.md.some i k (by omega) hk
        have := lt_of_get h1
        exact ⟨q, app_get h1, h2, (hI k i).2 (.inr ⟨by omega, hin, h3⟩)⟩
      · rw [hkn2 i hin] at hk
        by_cases hv : isV (G ++ A) i = true
        · rw [if_pos hv] at hk; cases hk
        · rw [if_neg hv] at hk
          obtain rfl : i = k := Option.some.inj hk
          obtain ⟨p, hpi⟩ := hex i hi
          exact ⟨p, hpi, fun e => hv ((hV1 i p hpi).2 e), rfl⟩
  · refine ⟨fun i l hi hl => ?_, fun i v p hi hl hv hp1 => ?_⟩
    · by_cases hin : i < n
      · rw [hkn i hin] at hl
        obtain ⟨g1, ⟨q, g2, g2'⟩, g3, g4⟩ := h.le.is i l hin hl
        refine ⟨by omega, ⟨q, app_get g2, g2'⟩, (hI l i).2 (.inr ⟨g1, hin, g3⟩), fun v p hv hp1 e => ?_⟩
        rcases (hI v i).1 e with rfl | ⟨h1, _, h3⟩
        · rw [nmG_app (by omega)]
          exact g4 v p (get_before (by omega) hv) hp1 rfl
        · rw [nmG_app (by omega)]
          exact g4 v p (get_before (by omega) hv) hp1 h3
      · rw [hkn2 i hin] at hl
        by_cases hv : isV (G ++ A) i = true
        · rw [if_pos hv] at hl
          obtain rfl : i = l := Option.some.inj hl
          refine ⟨hi, of_isV hv, rfl, fun v p hv2 hp1 e => ?_⟩
          rcases (hI v i).1 e with rfl | ⟨_, h2, _⟩
          · unfold nmG
            rw [hv2]
            exact Int.le_refl _
          · exact absurd h2 hin
        · rw [if_neg hv] at hl; cases hl
    · intro e
      by_cases hin : i < n
      · rw [hkn i hin] at hl
        rcases (hI v i).1 e with rfl | ⟨h1, _, h3⟩
        · exact h.le.no v v p hin hl (get_before (by omega) hv) hp1 rfl
        · exact h.le.no i v p hin hl (get_before (by omega) hv) hp1 h3
      · rw [hkn2 i hin] at hl
        rcases (hI v i).1 e with rfl | ⟨_, h2, _⟩
        · rw [if_pos ((hV1 v p hv).2 hp1)] at hl
          cases hl
        · exact absurd h2 hin
  · by_cases hin : i < n
    · rw [hro i hin]
      obtain ⟨h1, h2⟩ := h.rt i hin
      exact ⟨by omega, (hI _ _).2 (.inr ⟨h1, hin, h2⟩)⟩
    · rw [hro2 i hin]
      exact ⟨hi, rfl⟩
  · rcases (hI i j).1 e with rfl | ⟨h1, h2, h3⟩
    · rfl
    · rw [hro i h1, hro j h2, h.un i j h1 h2 h3]
theorem rings_app (h : Rings n nx (vc G col)) (hlen : n = G.length) (hM : ∀ i, i < n → col i < M) : Rings (G ++ A).length (gI n nx) (vc (G ++ A) (gC n M col)) := by
  have hI := gC_iff (n := n) (M := M) (col := col) hM
  refine rings_grow h (by simp; omega) (fun i hi => by simp [gI, hi]) (fun i hi => by simp [gI]; omega) (fun i j hi hj => ?_) fun i j hi him hj e => ?_
  · rw [vc_iff, vc_iff, hI, isV_app (by omega), isV_app (by omega)]
    constructor
    · rintro (e | ⟨h1, h2, h3⟩)
      · exact .inl e
      · exact .inr ⟨h1, h2, .inr ⟨hi, hj, h3⟩⟩
    · rintro (e | ⟨h1, h2, rfl | ⟨_, _, h3⟩⟩)
      · exact .inl e
      · exact .inl rfl
      · exact .inr ⟨h1, h2, h3⟩
  · rcases (vc_iff _ _).1 e with e | ⟨_, _, e⟩
    · exact e
    · rcases (hI _ _).1 e with e | ⟨_, h2, _⟩
      · exact e
      · omega
theorem cnt_succ (m : Nat) (c : Nat → Nat) : cnt (m + 1) c ≤ cnt m c + 1 ∧ cnt m c ≤ cnt (m + 1) c := by
  unfold cnt
  rw [List.range_succ, List.countP_append]
  simp only [List.countP_cons, List.countP_nil]
  split <;> omega
theorem cnt_grow (m k : Nat) (c : Nat → Nat) : cnt (m + k) c ≤ cnt m c + k ∧ cnt m c ≤ cnt (m + k) c := by
  induction k with
  | zero => simp
  | succ k ih =>
    have := cnt_succ (m + k) c
    rw [← Nat.add_assoc]
    omega
theorem cnt_gC {m : Nat} (hm : n ≤ m) : cnt m (gC n M col) ≤ cnt n col + (m - n) := by
  have h1 : cnt n (gC n M col) = cnt n col := (show Ker n (gC n M col) col from fun i j hi hj => by simp [gC, hi, hj]).cnt
  have h2 := (cnt_grow n (m - n) (gC n M col)).1
  rw [Nat.add_sub_cancel' hm, h1] at h2
  exact h2
end
end Go.Proofs.YtojgiienohpaiaaGreat
namespace Go.Proofs.YtojgiienohpaiaaGreat
open Go.RowKit
open Un (Else StM rowI UFo own_else dg swp wp_world paint cnt Rings)
set_option maxRecDepth 100000
def Gp (G : List Gn) : Prop := ∀ p ∈ G, p.2.2.2.length ≤ 8 ∧ ∀ u ∈ p.2.2.2, u < G.length
theorem gnode_gp {G : List Gn} {k n : Int} {P : List Nat} (h : Gp G) (hP : P.length ≤ 8) (hlt : ∀ u ∈ P, u < G.length) : Gp (gnode G k n P).1 := by
  unfold gnode
  split
  · exact h
  · intro p hp
    rcases List.mem_append.1 hp with hp | hp
    · obtain ⟨h1, h2⟩ := h p hp
      exact ⟨h1, fun u hu => by have := h2 u hu; simp; omega⟩
    · simp only [List.mem_cons, List.not_mem_nil, or_false] at hp
      subst hp
      exact ⟨hP, fun u hu => by have := hlt u hu; simp; omega⟩
theorem alone_le {k n : Int} {m : Nat} (h : alone k n m = true) : m ≤ 8 := by
  unfold alone at h
  split at h
  · simp only [Bool.and_eq_true, beq_iff_eq] at h; omega
  · split at h
    · simp only [Bool.and_eq_true, beq_iff_eq] at h; omega
    · split at h
      · simp only [Bool.and_eq_true, beq_iff_eq] at h; omega
      · split at h
        · simp only [Bool.and_eq_true, beq_iff_eq, decide_eq_true_eq] at h; omega
        · cases h
theorem gadd_gp (F : Fo) : ∀ G, GI G → Vok F → LenOk F → (∀ x ∈ F.pre, alone x.1 x.2.1 x.2.2.2.1 = true) → Gp G → Gp (gadd G F).1 := by
  induction F with
  | nil => intro G _ _ _ _ h; rw [gadd_nil]; exact h
  | cons k n u ps r i1 i2 =>
    intro G hG hv hl ha h
    obtain ⟨v1, v2, v3⟩ := hv
    obtain ⟨l1, l2, l3⟩ := hl
    have g1 := gadd_ok ps G hG v2
    have p1 := i1 G hG v2 l2 (fun x hx => ha x (by simp [Fo.pre, hx])) h
    have hk : k = 1 → (gadd G ps).2 = [] := fun h => by rw [v1 h, gadd_nil]
    obtain ⟨_, ok2, _, _⟩ := gnode_ok (gadd G ps).1 k n (gadd G ps).2 g1.ok hk
    have h8 : u.2.1 ≤ 8 := alone_le (ha (k, n, u) (by simp [Fo.pre]))
    have p2 := gnode_gp (k := k) (n := n) p1 (by rw [gadd_len]; omega) g1.lt
    rw [← gadd1_eq] at ok2 p2
    rw [gadd_cons]
    exact i2 _ ok2 v3 l3 (fun x hx => ha x (by simp [Fo.pre, hx])) p2
theorem gadd1_all {G : List Gn} {k n : Int} {u : Sl} {ps : Fo} (hG : GI G) (hp : Gp G) (hr : allAlone (Fo.cons k n u ps .nil).pre = true) (hl : LenOk (Fo.cons k n u ps .nil)) :
    (∃ X, (gadd1 G k n ps).1 = G ++ X ∧ X.length ≤ 1 + ps.size) ∧ GI (gadd1 G k n ps).1 ∧ Gp (gadd1 G k n ps).1 ∧ (gadd1 G k n ps).2 < (gadd1 G k n ps).1.length := by
  have hv := vok_of hr hl
  obtain ⟨⟨X, h1, h2⟩, h3, h4, _⟩ := gadd_ok _ G hG hv
  have h5 := gadd_gp _ G hG hv hl (by simpa [allAlone] using hr) hp
  rw [gadd_cons, gadd_nil] at h1 h3 h4 h5
  exact ⟨⟨X, h1, by simpa [Fo.size] using h2⟩, h3, h5, h4 _ (by simp)⟩
section
variable {O T : Nat → Prop} {w w' V : World} {cb : Nat} {A : Adr} {st : Int} {cl : Bool} {n : Nat} {G G' : List Gn} {kn kn' : Kn} {nx nx' col ro col' ro' : Nat → Nat} {fs fs' : Int}
theorem StX.like {S : Nat → Prop} {x0 x1 x2 x6 x7 : Value} {f0 c fo ob : Nat} (h : StX S w cb x0 x1 x2 f0 c fo ob x6 x7 n col ro fs) (hc : ∀ i, i < n → col' i = col i) (hr : ∀ i, i < n → ro' i = ro i) : StX S w cb x0 x1 x2 f0 c fo ob x6 x7 n col' ro' fs :=
  h.imp (fun h => StM.like h hc hr) id
theorem ClM.like (h : ClM O w cb A st cl n G kn nx col ro fs) (hk : ∀ i, i < n → kn' i = kn i) (hx : ∀ i, i < n → nx' i = nx i) (hc : ∀ i, i < n → col' i = col i) (hr : ∀ i, i < n → ro' i = ro i) : ClM O w cb A st cl n G kn' nx' col' ro' fs :=
  ⟨h.sets.like hc hr, h.gr, by rw [knR_congr hk]; exact h.kr, by rw [Un.rowI_congr hx]; exact h.nr, h.d, h.ks, h.ns, h.own, h.sb⟩
theorem ClM.tight (h : ClM O w cb A st cl n G kn nx col ro fs) : ClM (fun k => A.D k ∨ A.F cb k) w cb A st cl n G kn nx col ro fs :=
  ⟨h.sets, h.gr, h.kr, h.nr, h.d, h.ks, h.ns, fun _ hk => hk, h.sb⟩
def Adr.gr (A : Adr) (v : Value) (L : List Nd) : Adr := { A with V := v, L := L }
theorem ClM.graph (h : ClM O w cb A st cl n G kn nx col ro fs) {v' : Value} {X : List Nd} (hG : GrM 0 w' A.g v' A.mb (A.L ++ X) G') (hc : Chg w w' A.g A.mb A.V v') (hX : ∀ x ∈ X, ∀ b, (slv x.2.2.2).ownBlock = some b → w.heap.size ≤ b) :
    ClM (fun k => O k ∨ w.heap.size ≤ k) w' cb (A.gr v' (A.L ++ X)) st cl n G' kn nx col ro fs ∧ Else A.D w w' ∧ ∀ k, (A.gr v' (A.L ++ X)).D k → A.D k ∨ w.heap.size ≤ k := by
  have he : Else A.D w w' := ⟨hc.os, hc.tape, hc.output, hc.size, fun k hk hD => hc.block k hk (fun e => hD (.inl e)) (fun e => hD (.inr (.inl e))) fun e => hD (.inr (.inr (.inl e)))⟩
  have hnd : ∀ k, A.F cb k → ¬ A.D k := fun k hF hD => h.d k hD hF
  have hD' : ∀ k, (A.gr v' (A.L ++ X)).D k → A.D k ∨ w.heap.size ≤ k := by
    rintro k (e | e | e | ⟨x, hx, e⟩)
    · exact .inl (.inl e)
    · exact .inl (.inr (.inl e))
    · rcases hc.at_ with e2 | ⟨b, e2, hb⟩
      · exact .inl (.inr (.inr (.inl (e2.symm.trans e))))
      · have e : v'.ownBlock = some k := e
        rw [e2] at e
        cases e
        exact .inr hb
    · rcases List.mem_append.1 hx with hx | hx
      · exact .inl (.inr (.inr (.inr ⟨x, hx, e⟩)))
      · exact .inr (hX x hx k e)
  refine ⟨⟨StX.keep h.sets he (hnd _ (.inr (.inl rfl))) (hnd _ (.inr (.inr (.inl rfl)))) (hnd _ (.inr (.inr (.inr (.inl rfl))))) (fun k hk => hnd k (.inl hk)), hG, own_else h.kr he (fun k hk => hnd k (.inr (.inr (.inr (.inr (.inl hk)))))), own_else h.nr he (fun k hk => hnd k (.inr (.inr (.inr (.inr (.inr hk)))))), fun k hk hF => ?_, h.ks, h.ns, fun k hk => ?_, fun k hk => Nat.lt_of_lt_of_le (h.sb k hk) he.size⟩, he, hD'⟩
  · rcases hD' k hk with e | e
    · exact h.d k e hF
    · have := h.lt (.inr hF)
      omega
  · rcases hk with hk | hk
    · exact (hD' k hk).imp (fun e => h.own k (.inl e)) id
    · exact .inl (h.own k (.inr hk))
theorem add_cl (h : ClM O w cb A st cl n G kn nx col ro fs) (hGI : GI G) (BT : Nat) (hBT : BT ≤ w.heap.size) (k n' : Int) (u : Sl) (ps : Fo) (hps : TyV BT w ps (slv u)) (hwf : (Fo.cons k n' u ps .nil).wf)
    (hs : G.length + (1 + ps.size) ≤ 500000) (hr : allAlone (Fo.cons k n' u ps .nil).pre = true) :
    Calls Tryz.prog 50 #[.pointer (some ⟨A.g, 0, none⟩), tyVal k n' (slv u)] w fun e w' => ∃ v' X, e = .returned (.tuple #[.int .i64 ((gadd1 G k n' ps).2 : Nat), .int .i64 0]) ∧ ClM (fun k => O k ∨ w.heap.size ≤ k) w' cb (A.gr v' X) st cl n (gadd1 G k n' ps).1 kn nx col ro fs ∧ Else A.D w w' ∧ ∀ k, (A.gr v' X).D k → A.D k ∨ w.heap.size ≤ k :=
  (add_graph w 0 A.g A.mb A.V A.L G h.gr (Nat.zero_le _) hGI BT hBT k n' u ps hps hwf hs hr).mono fun _ _ ⟨v', X, h1, h2, h3, h4⟩ =>
    have hh := h.graph h2 h3 h4
    ⟨v', A.L ++ X, h1, hh.1, hh.2.1, hh.2.2⟩
end
end Go.Proofs.YtojgiienohpaiaaGreat
