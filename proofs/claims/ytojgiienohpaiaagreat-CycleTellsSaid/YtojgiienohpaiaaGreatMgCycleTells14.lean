/- Texts of one proof, one behind the other. -/
import Derived.Test.YtojgiienohpaiaaGreatMgCycleTells13
import Derived.Deep.CutRange
import Derived.Test.YtojgiienohpaiaaGreatMgCycleTells2
namespace Go.Proofs.YtojgiienohpaiaaGreat
open Go.RowKit
open Un (Else StM rowI UFo own_else dg swp wp_world paint)
set_option maxRecDepth 100000
section
variable {O T : Nat → Prop} {w w' V : World} {cb : Nat} {A : Adr} {st : Int} {cl : Bool} {n : Nat} {G : List Gn} {kn : Kn} {nx col ro col' ro' : Nat → Nat} {fs fs' : Int}
def Adr.up (A : Adr) (f0 c fo : Nat) (K N : Value) (S : Nat → Prop) : Adr := { A with f0 := f0, c := c, fo := fo, K := K, N := N, S := S }
theorem own_cells {base : Nat} {e : TypeId} {size m g c : Nat} {xs : List Value} (h : w.ownsRow base e size (.slice (some ⟨g, 0, none⟩) m c) m xs) (_hm : 0 < m) : ∃ cs, w.heap[g]? = some (Obj.cells cs e) := by
  rcases h.2 with ⟨hv, _⟩ | ⟨g', cap, cur, hv, _, hg, _⟩
  · cases hv
  · cases hv; exact ⟨_, hg⟩
theorem StX.obcb {S : Nat → Prop} {x0 x1 x2 x6 x7 : Value} {f0 c fo ob : Nat} (h : StX S w cb x0 x1 x2 f0 c fo ob x6 x7 n col ro fs) : ob ≠ cb := by
  intro e
  rcases h with h | ⟨_, _, h1, h2⟩
  · obtain ⟨_, _, ⟨_, _, hm, _⟩, _⟩ := h.map
    rw [e, h.blk] at hm
    cases hm
  · obtain ⟨_, _, ⟨_, _, hm, _⟩, _⟩ := h2
    rw [e, h1] at hm
    cases hm
theorem StX.rows {S : Nat → Prop} {x0 x1 x2 x6 x7 y6 y7 : Value} {f0 c fo ob : Nat} (h : StX S w cb x0 x1 x2 f0 c fo ob x6 x7 n col ro fs) (he : Else T w V) (h2 : ¬ T ob) (h3 : f0 ≠ cb → ¬ T f0) (h4 : ¬ S cb → ∀ k, S k → ¬ T k)
    (hb : ∀ F, w.heap[cb]? = some (Obj.cells #[x0, x1, x2, F, .int .i64 n, .map (some ob), x6, x7] 100) → V.heap[cb]? = some (Obj.cells #[x0, x1, x2, F, .int .i64 n, .map (some ob), y6, y7] 100)) : StX S V cb x0 x1 x2 f0 c fo ob y6 y7 n col ro fs := by
  rcases h with h | ⟨e1, e2, e3, e4⟩
  · have hne : f0 ≠ cb := fun e => Un.row_ne h.row h.blk (by decide) (by rw [e]; rfl)
    exact .inl ⟨hb _ h.blk, h.map.block (he.block ob h.map.lt h2), h.ncb, h.nob, h.nf0, own_else h.row he (fun k hk => by cases hk; exact h3 hne), h.uf.keep he (h4 h.ncb)⟩
  · subst e1
    exact .inr ⟨rfl, e2, hb _ e3, e4.block (he.block ob e4.lt h2)⟩
theorem grow_fin (h : ClM O w cb A st cl n G kn nx col ro fs) {K' N' : Value} {S' : Nat → Prop} {f0' c' fo' : Nat} (he : Else (fun k => k = cb ∨ A.K.ownBlock = some k ∨ A.N.ownBlock = some k) w V)
    (kr : V.ownsRow 0 124 2 K' (n + 1) (knR (n + 1) kn)) (nr : V.ownsRow 0 3 1 N' (n + 1) (rowI (n + 1) nx))
    (hK : K'.ownBlock = A.K.ownBlock ∨ ∃ b, K'.ownBlock = some b ∧ w.heap.size ≤ b) (hN : N'.ownBlock = A.N.ownBlock ∨ ∃ b, N'.ownBlock = some b ∧ w.heap.size ≤ b) (hKN : ∀ k, K'.ownBlock = some k → N'.ownBlock ≠ some k)
    (he2 : Else (fun k => A.S k ∨ k = cb) V w') (hs : StM S' w' cb (.int .i64 st) (.bool cl) (.pointer (some ⟨A.g, 0, none⟩)) f0' c' fo' A.ob K' N' (n + 1) col ro fs) (hS : ∀ k, S' k → A.S k ∨ V.heap.size ≤ k) (hSb : ∀ k, S' k → k < w'.heap.size) (hf : f0' = A.f0 ∨ V.heap.size ≤ f0') :
    ClM (fun k => O k ∨ w.heap.size ≤ k) w' cb (A.up f0' c' fo' K' N' S') st cl (n + 1) G kn nx col ro fs ∧ Else O w w' := by
  have hsz := he.size
  have hsz2 := he2.size
  have hlt := fun k hk => h.lt (k := k) hk
  have hcb : cb < w.heap.size := hlt _ (.inr (.inr (.inl rfl)))
  have hob : A.ob < w.heap.size := hlt _ (.inr (.inr (.inr (.inl rfl))))
  have hf0 : A.f0 < w.heap.size := hlt _ (.inr (.inr (.inr (.inr (.inl rfl)))))
  have hKk : ∀ k, K'.ownBlock = some k → (A.K.ownBlock = some k ∨ w.heap.size ≤ k) := fun k hk => by
    rcases hK with e | ⟨b, e, hb⟩
    · exact .inl (e ▸ hk)
    · rw [e] at hk; cases hk; exact .inr hb
  have hNk : ∀ k, N'.ownBlock = some k → (A.N.ownBlock = some k ∨ w.heap.size ≤ k) := fun k hk => by
    rcases hN with e | ⟨b, e, hb⟩
    · exact .inl (e ▸ hk)
    · rw [e] at hk; cases hk; exact .inr hb
  have hSw : ∀ k, A.S k → k < w.heap.size := h.sb
  have nK : ∀ k, K'.ownBlock = some k → ¬ A.S k ∧ k ≠ cb ∧ k ≠ A.ob ∧ k ≠ A.f0 := fun k hk => by
    rcases hKk k hk with e | e
    · obtain ⟨a, b, c, d, _⟩ := h.ks k e
      exact ⟨a, b, c, d⟩
    · exact ⟨fun x => by have := hSw k x; omega, by omega, by omega, by omega⟩
  have nN : ∀ k, N'.ownBlock = some k → ¬ A.S k ∧ k ≠ cb ∧ k ≠ A.ob ∧ k ≠ A.f0 := fun k hk => by
    rcases hNk k hk with e | e
    · exact h.ns k e
    · exact ⟨fun x => by have := hSw k x; omega, by omega, by omega, by omega⟩
  have kl : ∀ k, K'.ownBlock = some k → k < V.heap.size := fun k hk => (kr.lt k hk).2
  have nl : ∀ k, N'.ownBlock = some k → k < V.heap.size := fun k hk => (nr.lt k hk).2
  refine ⟨⟨.inl hs, ?_, own_else kr he2 (fun k hk e => e.elim (nK k hk).1 (nK k hk).2.1), own_else nr he2 (fun k hk e => e.elim (nN k hk).1 (nN k hk).2.1), ?_, fun k hk => ⟨fun x => ?_, (nK k hk).2.1, (nK k hk).2.2.1, ?_, hKN k hk⟩, fun k hk => ⟨fun x => ?_, (nN k hk).2.1, (nN k hk).2.2.1, ?_⟩, ?_, hSb⟩, ?_⟩
  · refine GrM.stay (A := A.up f0' c' fo' K' N' S') (w := w) h.gr fun k hk => ?_
    have hk : A.D k := hk
    have hkl := h.gr.blocks hk
    have hd := h.d k hk
    rw [he2.block k (by omega) (fun e => hd (e.elim .inl fun e => .inr (.inl e))), he.block k hkl fun e => hd (by
      rcases e with e | e | e
      · exact .inr (.inl e)
      · exact .inr (.inr (.inr (.inr (.inl e))))
      · exact .inr (.inr (.inr (.inr (.inr e)))))]
  · intro k hk hF
    have hk : A.D k := hk
    have hkl := h.gr.blocks hk
    have hd := h.d k hk
    rcases hF with e | e | e | e | e | e
    · rcases hS k e with e | e
      · exact hd (.inl e)
      · omega
    · exact hd (.inr (.inl e))
    · exact hd (.inr (.inr (.inl e)))
    · have e : k = f0' := e
      rcases hf with f | f
      · exact hd (.inr (.inr (.inr (.inl (e.trans f)))))
      · omega
    · rcases hKk k e with e | e
      · exact hd (.inr (.inr (.inr (.inr (.inl e)))))
      · omega
    · rcases hNk k e with e | e
      · exact hd (.inr (.inr (.inr (.inr (.inr e)))))
      · omega
  · rcases hS k x with e | e
    · exact (nK k hk).1 e
    · have := kl k hk; omega
  · show k ≠ f0'
    rcases hf with f | f
    · rw [f]; exact (nK k hk).2.2.2
    · have := kl k hk; omega
  · rcases hS k x with e | e
    · exact (nN k hk).1 e
    · have := nl k hk; omega
  · show k ≠ f0'
    rcases hf with f | f
    · rw [f]; exact (nN k hk).2.2.2
    · have := nl k hk; omega
  · intro k hk
    rcases hk with hk | e | e | e | e | e | e
    · exact .inl (h.own k (.inl hk))
    · rcases hS k e with e | e
      · exact .inl (h.own k (.inr (.inl e)))
      · exact .inr (by omega)
    · exact .inl (h.own k (.inr (.inr (.inl e))))
    · exact .inl (h.own k (.inr (.inr (.inr (.inl e)))))
    · have e : k = f0' := e
      rcases hf with f | f
      · exact .inl (h.own k (.inr (.inr (.inr (.inr (.inl (e.trans f)))))))
      · exact .inr (by omega)
    · exact (hKk k e).imp (fun e => h.own k (.inr (.inr (.inr (.inr (.inr (.inl e))))))) id
    · exact (hNk k e).imp (fun e => h.own k (.inr (.inr (.inr (.inr (.inr (.inr e))))))) id
  · refine (he.mono fun k e => ?_).trans (he2.mono fun k e => ?_)
    · rcases e with e | e | e
      · exact h.own k (.inr (.inr (.inl e)))
      · exact h.own k (.inr (.inr (.inr (.inr (.inr (.inl e))))))
      · exact h.own k (.inr (.inr (.inr (.inr (.inr (.inr e))))))
    · rcases e with e | e
      · exact h.own k (.inr (.inl e))
      · exact h.own k (.inr (.inr (.inl e)))
end
end Go.Proofs.YtojgiienohpaiaaGreat
namespace Go.Proofs.YtojgiienohpaiaaGreat
open Go.RowKit
open Un (Else StM rowI UFo own_else dg swp wp_world paint Ker)
set_option maxRecDepth 100000
section
variable {O T : Nat → Prop} {w w' V : World} {cb : Nat} {A : Adr} {st : Int} {cl : Bool} {n : Nat} {G : List Gn} {kn : Kn} {nx col ro col' ro' : Nat → Nat} {fs fs' : Int}
theorem UFo.like {S : Nat → Prop} {b : Nat} (h : UFo S w b n col ro fs) (hc : ∀ i, i < n → col' i = col i) (hr : ∀ i, i < n → ro' i = ro i) : UFo S w b n col' ro' fs := by
  have k : Ker n col col' := fun i j hi hj => by rw [hc i hi, hc j hj]
  obtain ⟨a, z, x, par, sz, nx, rk, h1, h2, h3, h4, h5⟩ := h.ker k
  exact ⟨a, z, x, par, sz, nx, rk, h1, h2, h3, h4, fun i hi => by rw [hr i hi]; exact h5 i hi⟩
theorem StM.like {S : Nat → Prop} {x0 x1 x2 x6 x7 : Value} {f0 c fo ob : Nat} (h : StM S w cb x0 x1 x2 f0 c fo ob x6 x7 n col ro fs) (hc : ∀ i, i < n → col' i = col i) (hr : ∀ i, i < n → ro' i = ro i) : StM S w cb x0 x1 x2 f0 c fo ob x6 x7 n col' ro' fs :=
  ⟨h.blk, h.map, h.ncb, h.nob, h.nf0, h.row, UFo.like h.uf hc hr⟩
def Bare (w : World) (cb ob : Nat) (x0 x1 x2 x6 x7 : Value) : Prop := w.heap[cb]? = some (Obj.cells #[x0, x1, x2, .slice none 0 0, .int .i64 0, .map (some ob), x6, x7] 100)
theorem add_any {S : Nat → Prop} {x0 x1 x2 x6 x7 : Value} {f0 c fo ob : Nat} (h : StX S V cb x0 x1 x2 f0 c fo ob x6 x7 n col ro fs) (hz : n = 0 → Bare V cb ob x0 x1 x2 x6 x7) (hn : n < 1048576) (hc : ∀ k, k < n → col k ≠ col n) (hr : ro n = n) :
    Calls Tryz.prog 70 #[.pointer (some ⟨cb, 3, none⟩)] V fun e w' => e = .returned (.tuple #[]) ∧ ∃ f0' c' fo' S', StM S' w' cb x0 x1 x2 f0' c' fo' ob x6 x7 (n + 1) col ro fs ∧ (∀ k, S' k → S k ∨ V.heap.size ≤ k) ∧ (∀ k, S' k → k < w'.heap.size) ∧ (f0' = f0 ∨ V.heap.size ≤ f0') ∧ Else (fun k => S k ∨ k = cb) V w' := by
  by_cases h0 : n = 0
  · subst h0
    have hb := hz rfl
    unfold Bare at hb
    rcases h with h | ⟨_, ⟨e2, _⟩, e3, e4⟩
    · have := h.blk
      rw [hb] at this
      cases this
    · refine (Un.add_new e3 e4).mono ?_
      rintro e w' ⟨rfl, ⟨f0', c', fo', hf, hs⟩, hE⟩
      have hk : StM (fun k => V.heap.size ≤ k ∧ k ≠ f0') w' cb x0 x1 x2 f0' c' fo' ob x6 x7 1 col (fun j => j) 0 := by
        refine ⟨hs.blk, hs.map, hs.ncb, hs.nob, hs.nf0, hs.row, hs.uf.ker (d := col) fun i j hi hj => ?_⟩
        obtain rfl : i = 0 := by omega
        obtain rfl : j = 0 := by omega
        exact ⟨fun _ => rfl, fun _ => rfl⟩
      have hk2 : StM (fun k => V.heap.size ≤ k ∧ k ≠ f0') w' cb x0 x1 x2 f0' c' fo' ob x6 x7 1 col ro 0 := by
        refine StM.like hk (fun _ _ => rfl) fun i hi => ?_
        obtain rfl : i = 0 := by omega
        exact hr
      rw [← e2] at hk2
      exact ⟨rfl, f0', c', fo', _, Un.StM.tight hk2, fun k hk => .inr hk.1.1, fun k hk => hk.2, .inr hf, hE.mono fun k hk => .inr hk⟩
  · rcases h with h | ⟨e1, _⟩
    · refine (Un.add_st h (by omega) hn (col n) hc).mono ?_
      rintro e w' ⟨rfl, hs, hE⟩
      refine ⟨rfl, f0, c, fo, _, StM.like (Un.StM.tight hs) (fun i hi => ?_) (fun i hi => ?_), fun k hk => hk.1, fun k hk => hk.2, .inl rfl, hE⟩
      · by_cases e : i = n
        · subst e; rw [Un.upd_same]
        · rw [Un.upd_other _ _ e]
      · by_cases e : i = n
        · subst e; rw [Un.upd_same]; exact hr
        · rw [Un.upd_other _ _ e]
    · exact absurd e1 h0
theorem clsInfo : (Tryz.prog.info? 124).map (fun i => (i.zero, i.size, i.bytes)) = some (some (.agg #[.int .i64 0, .int .i64 0]), 2, 16) := by kernel_rfl
theorem app_cls (W : World) (v : Value) (m : Nat) (xs : List Value) (hown : W.ownsRow 0 124 2 v m xs) (a b : Int) (hm : m ≤ 10000000) :
    ∃ g cp w1, (Un.app_ #[98, 98] 98 #[v, .slice (some ⟨W.heap.size, 0, none⟩) 1 1]).run Tryz.prog (W.alloc (.cells #[.int .i64 a, .int .i64 b] 124)) = .ok (.slice (some ⟨g, 0, none⟩) (m + 1) cp) w1 ∧
      w1.ownsRow 0 124 2 (.slice (some ⟨g, 0, none⟩) (m + 1) cp) (m + 1) (xs ++ [.int .i64 a, .int .i64 b]) ∧ (W.alloc (.cells #[.int .i64 a, .int .i64 b] 124)).grownBy w1 v.ownBlock ∧ (v.ownBlock = some g ∨ g = W.heap.size + 1) := by
  obtain ⟨i0, hi0, hz0, hz1, hz2⟩ := Un.info_parts clsInfo
  have rd1 : Rd (W.alloc (.cells #[.int .i64 a, .int .i64 b] 124)) 2 (.slice (some ⟨W.heap.size, 0, none⟩) 1 1) 1 [.int .i64 a, .int .i64 b] := rd_new W [.int .i64 a, .int .i64 b] 124 2 1 rfl (by unfold maxLen; omega)
  obtain ⟨v', w1, hrun, hown1, hg1, hat⟩ := run_append_rd (P := Tryz.prog) _ 0 98 98 124 i0 _ 2 16 Tryz.underlying98 hi0 hz0 hz1 hz2 rfl (by omega) v m xs (hown.alloc _) _ 1 _ rd1 (by simp [Value.oneCell']) (by unfold maxLen; omega) (by omega) (by omega)
  obtain ⟨g, cp, rfl, _, _⟩ := Un.own_shape hown1 (by omega)
  refine ⟨g, cp, w1, hrun, hown1, hg1, ?_⟩
  rcases hat with e | e
  · exact .inl e.symm
  · right
    have e : some g = some (W.heap.size + 1) := by rw [← World.size_alloc W (.cells #[.int .i64 a, .int .i64 b] 124)]; exact e
    injection e
end
end Go.Proofs.YtojgiienohpaiaaGreat
namespace Go.Proofs.YtojgiienohpaiaaGreat
open Go.RowKit
open Un (Else StM rowI UFo own_else dg swp wp_world paint)
set_option maxRecDepth 100000
attribute [local go_sem] Oper.semAt_some
attribute [local go_sem ↓] Un.builtin_app
section
variable {O T : Nat → Prop} {w w' V : World} {cb : Nat} {A : Adr} {st : Int} {cl : Bool} {n : Nat} {G : List Gn} {kn : Kn} {nx col ro col' ro' : Nat → Nat} {fs fs' : Int}
theorem ClM.owned {O' : Nat → Prop} (h : ClM O w cb A st cl n G kn nx col ro fs) (ho : ∀ k, O k → O' k) : ClM O' w cb A st cl n G kn nx col ro fs :=
  ⟨h.sets, h.gr, h.kr, h.nr, h.d, h.ks, h.ns, fun k hk => ho k (h.own k hk), h.sb⟩
def GwR (O : Nat → Prop) (w : World) (cb : Nat) (st : Int) (cl : Bool) (n : Nat) (G : List Gn) (kn : Kn) (nx col ro : Nat → Nat) (fs : Int) (s : Value) (wr : World) : Prop :=
  ∃ (j : Nat) (A : Adr), s = .int .i64 (j : Nat) ∧ n ≤ j ∧ j ≤ G.length ∧ ClM (fun k => O k ∨ w.heap.size ≤ k) wr cb A st cl j G kn nx col ro fs ∧ (j = 0 → Bare wr cb A.ob (.int .i64 st) (.bool cl) (.pointer (some ⟨A.g, 0, none⟩)) A.K A.N) ∧ Else O w wr
set_option maxHeartbeats 4000000 in
theorem grow_cl (h : ClM O w cb A st cl n G kn nx col ro fs) (hz : n = 0 → Bare w cb A.ob (.int .i64 st) (.bool cl) (.pointer (some ⟨A.g, 0, none⟩)) A.K A.N) (hn : n ≤ G.length) (hG : G.length ≤ 1000000)
    (hkn : ∀ i p, n ≤ i → G[i]? = some p → kn i = if p.1 = 1 then (none, some i) else (some i, none)) (hnx : ∀ i, n ≤ i → nx i = i) (hro : ∀ i, n ≤ i → ro i = i) (hco : ∀ i k, n ≤ i → k < i → col k ≠ col i) :
    Calls Tryz.prog 51 #[.pointer (some ⟨cb, 0, none⟩)] w fun e w' => e = .returned (.tuple #[]) ∧ (∃ A', ClM (fun k => O k ∨ w.heap.size ≤ k) w' cb A' st cl G.length G kn nx col ro fs) ∧ Else O w w' := by
  obtain ⟨hl, hzf, c0, c1, c2, c6, c7⟩ := h.cells
  obtain ⟨AK, cK, hK, _, hcm⟩ := Un.own_form h.kr
  rw [hK] at c6
  have h0 : GwR O w cb st cl n G kn nx col ro fs (.int .i64 (n : Nat)) w := ⟨n, A, rfl, Nat.le_refl _, hn, h.owned fun k hk => .inl hk, hz, Else.refl _ _⟩
  have H0 := Lib.hid h0
  clear h hz hzf c0 c1 c2 c7 hK h0
  go_enter Tryz.func51, Tryz.ntmps51
  go_wp2_with fail
  go_loopw [2] (fun s wr => GwR O w cb st cl n G kn nx col ro fs s wr) (fun s _ => G.length - (intOf s).toNat)
  case atStart => exact H0.out
  case round =>
    obtain ⟨j, A1, rfl, hj, hjG, hC, hb, hE⟩ := hrel
    clear c6 hl H0
    obtain ⟨hl, hzf, c0, c1, c2, c6, c7⟩ := hC.cells
    have HL := len_graph wr 0 A1.g A1.mb A1.V A1.L G hC.gr
    have HH := Lib.hid (And.intro hC (And.intro hb hE))
    have hz0 := hzf
    clear hC hb hE c0 c1 hzf hz0
    by_cases hjl : j < G.length
    · have f1 : decide ((j : Int) < (G.length : Int)) = true := decide_eq_true (by omega)
      go_wp2_with fail
      refine HL.mono ?_
      rintro e w2 ⟨rfl, rfl⟩
      obtain ⟨p, hp⟩ : ∃ p, G[j]? = some p := ⟨_, List.getElem?_eq_getElem hjl⟩
      have hkj := hkn j p hj hp
      have hpp : G[j] = p := (List.getElem?_eq_some_iff.1 hp).2
      obtain ⟨kk, hkk⟩ : ∃ z, p.1 = z := ⟨_, rfl⟩
      have HKJ := Lib.hid (And.intro hkj (And.intro hpp hkk))
      clear hkj hpp hkk hp
      go_upto_region 4 with fail
      refine wp_world (fun V => V.heap[w2.heap.size]? = some (Obj.cells #[.int .i64 (j : Nat), .int .i64 (-1)] 124) ∧ Below w2.heap.size w2 V) ⟨heap_alloc_new w2 _, (Below.refl _ w2).alloc (Nat.le_refl _) _⟩ ?_
      rintro V ⟨hx, hbV⟩
      clear hl c2 c6 c7 HL
      have hCV := HH.out.1.below hbV
      obtain ⟨hl, hzf, c0, c1, c2, c6, c7⟩ := hCV.cells
      have HK := kind_in V 0 A1.g A1.mb A1.V A1.L G hCV.gr j hjl
      rw [HKJ.out.2.1, HKJ.out.2.2] at HK
      have HX := Lib.hid (And.intro hx hbV)
      clear hx hbV hCV hzf c0 c1
      go_upto_if 26 with (refine HK.mono ?_; rintro e w3 ⟨rfl, hb3⟩)
      have HB3 := Lib.hid hb3
      clear hb3 HK c2 c6 c7 hl
      have hx3 := (HB3.out.block _ (Array.getElem?_eq_some_iff.1 HX.out.1).1).trans HX.out.1
      have hxl := (Array.getElem?_eq_some_iff.1 hx3).1
      have b0 : w3.cell? ⟨w2.heap.size, 0, none⟩ = some (.int .i64 (j : Nat)) := cell_of_row w3 _ 0 _ _ (0, 0) hx3
      have b1 : w3.cell? ⟨w2.heap.size, 1, none⟩ = some (.int .i64 (-1)) := cell_of_row w3 _ 1 _ _ (0, 0) hx3
      have z0 : w3.frozen? ⟨w2.heap.size, 0, none⟩ = false := by simp [World.frozen?, hx3]
      have z1 : w3.frozen? ⟨w2.heap.size, 1, none⟩ = false := by simp [World.frozen?, hx3]
      have HX3 := Lib.hid (And.intro hx3 (HX.out.2.trans (HB3.out.mono HX.out.2.size)))
      clear hx3 HX HB3
      go_cut [] from 9 to 52 (fun wx => wx.heap[w2.heap.size]? = some (Obj.cells #[.int .i64 (oi (kn j).1), .int .i64 (oi (kn j).2)] 124) ∧ Below w2.heap.size w2 wx)
      case first =>
        by_cases hk1 : kk = 1
        · have f2 : (kk == 1) = true := by simp [hk1]
          go_wp2_with fail
          go_meet
          obtain ⟨hx3, hb3⟩ := HX3.out
          have e1 : kn j = (none, some j) := by rw [HKJ.out.1, if_pos (HKJ.out.2.2.trans hk1)]
          rw [e1]
          exact ⟨heap_setCell_same _ _ 1 _ _ (.int .i64 (j : Nat)) (heap_setCell_same w3 _ 0 _ _ (.int .i64 (-1)) hx3), (hb3.setCell (p := ⟨w2.heap.size, 0, none⟩) (Nat.le_refl _) _).setCell (p := ⟨w2.heap.size, 1, none⟩) (Nat.le_refl _) _⟩
        · have f2 : (kk == 1) = false := by simp [hk1]
          go_wp2_with fail
          go_meet
          have e1 : kn j = (some j, none) := by rw [HKJ.out.1, if_neg (fun e => hk1 (HKJ.out.2.2.symm.trans e))]
          rw [e1]
          exact HX3.out
      case rest =>
        obtain ⟨hx, hbw⟩ := hcut
        obtain ⟨la, hla⟩ : ∃ z, oi (kn j).1 = z := ⟨_, rfl⟩
        obtain ⟨lb, hlb⟩ : ∃ z, oi (kn j).2 = z := ⟨_, rfl⟩
        rw [hla, hlb] at hx
        have hCw := HH.out.1.below hbw
        obtain ⟨hl, hzf, _, _, _, c6, _⟩ := hCw.cells
        have b0 : wc.cell? ⟨w2.heap.size, 0, none⟩ = some (.int .i64 la) := cell_of_row wc _ 0 _ _ (0, 0) hx
        have b1 : wc.cell? ⟨w2.heap.size, 1, none⟩ = some (.int .i64 lb) := cell_of_row wc _ 1 _ _ (0, 0) hx
        obtain ⟨g6, p6, w6, run6, own6, gr6, at6⟩ := app_cls wc.drew A1.K j (knR j kn) (hCw.below (Below.refl _ wc).drew).kr la lb (by omega)
        have hE6 : Else (fun k => A1.K.ownBlock = some k) wc w6 := ((Un.Else.drew (Else.refl _ wc)).trans (Un.Else.alloc _ _ _)).trans (Un.Else.grown gr6 fun k hk => hk)
        obtain ⟨Fc, hFc⟩ := hCw.blk
        have hF6 := (hE6.block cb hl fun e => (hCw.ks cb e).2.1 rfl).trans hFc
        have hl6 := (Array.getElem?_eq_some_iff.1 hF6).1
        have hz6 : w6.frozen? ⟨cb, 6, none⟩ = false := by simp [World.frozen?, hF6]
        have d6 : w6.cell? ⟨cb, 6, none⟩ = some A1.K := cell_of_row w6 cb 6 _ _ _ hF6
        obtain ⟨Ak, ck, hKe, _, _⟩ := Un.own_form hCw.kr
        rw [hKe] at c6 d6 run6
        have HW := Lib.hid (And.intro hbw (And.intro hKe (And.intro hla (And.intro hlb (And.intro own6 (And.intro hE6 (And.intro hF6 (And.intro hFc at6))))))))
        clear hx hbw hCw hzf own6 gr6 at6 hE6 hF6 hFc hla hlb hKe HX3 hxl z0 z1
        go_upto_region 6 with fail
        go_cut [] from 9 to 52 (fun wx => wx = w6.setCell ⟨cb, 6, none⟩ (.slice (some ⟨g6, 0, none⟩) (j + 1) p6))
        case first =>
          go_region_law (refine step_app (by rfl) (.tmp 33) (.tmp 35) 98 (by rfl) (show (app_ #[98, 98] 98 #[.slice Ak j ck, .slice (some ⟨wc.heap.size, 0, none⟩) 1 1]).run _ _ = _ from run6) (by rfl) (by rfl) ?_)
          all_goals (go_wp2_with fail; go_meet; rfl)
        case rest =>
          subst hcut
          obtain ⟨hbw, hKe, hla, hlb, own6, hE6, hF6, hFc, at6⟩ := HW.out
          have hCw := HH.out.1.below hbw
          obtain ⟨V, hV⟩ : ∃ V, w6.setCell ⟨cb, 6, none⟩ (.slice (some ⟨g6, 0, none⟩) (j + 1) p6) = V := ⟨_, rfl⟩
          have hEV : Else (fun k => k = cb ∨ A1.K.ownBlock = some k) wc V := by rw [← hV]; exact (hE6.mono fun k hk => .inr hk).trans (Un.Else.set (S := fun k => k = cb ∨ A1.K.ownBlock = some k) w6 (p := ⟨cb, 6, none⟩) (.inl rfl) _)
          have hFV := heap_setCell_same w6 cb 6 _ _ (.slice (some ⟨g6, 0, none⟩) (j + 1) p6) hF6
          rw [hV] at hFV
          have nrV := own_else hCw.nr hEV fun k hk e => e.elim (hCw.ns k hk).2.1 fun e => (hCw.ks k e).2.2.2.2 hk
          obtain ⟨g7, p7, w7, run7, own7, gr7, at7⟩ := Un.app_int V A1.N j _ nrV (j : Nat) (by omega)
          obtain ⟨An, cn, hNe, _, _⟩ := Un.own_form hCw.nr
          have hlV := (Array.getElem?_eq_some_iff.1 hFV).1
          have e7 : V.cell? ⟨cb, 7, none⟩ = some A1.N := cell_of_row V cb 7 _ _ _ hFV
          rw [hNe] at e7 run7
          have hE7 : Else (fun k => A1.N.ownBlock = some k) V w7 := (Un.Else.alloc _ _ _).trans (Un.Else.grown gr7 fun k hk => hk)
          have hF7 := (hE7.block cb hlV fun e => (hCw.ns cb e).2.1 rfl).trans hFV
          have hl7 := (Array.getElem?_eq_some_iff.1 hF7).1
          have hz7 : w7.frozen? ⟨cb, 7, none⟩ = false := by simp [World.frozen?, hF7]
          have d7 : w7.cell? ⟨cb, 7, none⟩ = some (.slice An j cn) := by rw [← hNe]; exact cell_of_row w7 cb 7 _ _ _ hF7
          obtain ⟨V2, hV2⟩ : ∃ V2, w7.setCell ⟨cb, 7, none⟩ (.slice (some ⟨g7, 0, none⟩) (j + 1) p7) = V2 := ⟨_, rfl⟩
          have hFV2 := heap_setCell_same w7 cb 7 _ _ (.slice (some ⟨g7, 0, none⟩) (j + 1) p7) hF7
          rw [hV2] at hFV2
          have hE72 : Else (fun k => k = cb ∨ A1.N.ownBlock = some k) V V2 := by rw [← hV2]; exact (hE7.mono fun k hk => .inr hk).trans (Un.Else.set (S := fun k => k = cb ∨ A1.N.ownBlock = some k) w7 (p := ⟨cb, 7, none⟩) (.inl rfl) _)
          have hE2 : Else (fun k => k = cb ∨ A1.K.ownBlock = some k ∨ A1.N.ownBlock = some k) wc V2 := (hEV.mono fun k hk => hk.imp id .inl).trans (hE72.mono fun k hk => hk.imp id .inr)
          have hbb : ∀ F, wc.heap[cb]? = some (Obj.cells #[.int .i64 st, .bool cl, .pointer (some ⟨A1.g, 0, none⟩), F, .int .i64 j, .map (some A1.ob), A1.K, A1.N] 100) → V2.heap[cb]? = some (Obj.cells #[.int .i64 st, .bool cl, .pointer (some ⟨A1.g, 0, none⟩), F, .int .i64 j, .map (some A1.ob), .slice (some ⟨g6, 0, none⟩) (j + 1) p6, .slice (some ⟨g7, 0, none⟩) (j + 1) p7] 100) := by
            intro F hF
            rw [hFc] at hF
            cases hF
            exact hFV2
          have hSX : StX A1.S V2 cb (.int .i64 st) (.bool cl) (.pointer (some ⟨A1.g, 0, none⟩)) A1.f0 A1.c A1.fo A1.ob (.slice (some ⟨g6, 0, none⟩) (j + 1) p6) (.slice (some ⟨g7, 0, none⟩) (j + 1) p7) j col ro fs := by
            refine StX.rows hCw.sets hE2 (fun e => ?_) (fun hne e => ?_) (fun hS k hk e => ?_) hbb
            · rcases e with e | e | e
              · exact StX.obcb hCw.sets e
              · exact (hCw.ks _ e).2.2.1 rfl
              · exact (hCw.ns _ e).2.2.1 rfl
            · rcases e with e | e | e
              · exact hne e
              · exact (hCw.ks _ e).2.2.2.1 rfl
              · exact (hCw.ns _ e).2.2.2 rfl
            · rcases e with e | e | e
              · subst e; exact hS hk
              · exact (hCw.ks _ e).1 hk
              · exact (hCw.ns _ e).1 hk
          have hBare : j = 0 → Bare V2 cb A1.ob (.int .i64 st) (.bool cl) (.pointer (some ⟨A1.g, 0, none⟩)) (.slice (some ⟨g6, 0, none⟩) (j + 1) p6) (.slice (some ⟨g7, 0, none⟩) (j + 1) p7) := by
            intro h0
            subst h0
            exact hbb _ ((hbw.block cb (Array.getElem?_eq_some_iff.1 (HH.out.2.1 rfl)).1).trans (HH.out.2.1 rfl))
          have g6s : A1.K.ownBlock = some g6 ∨ g6 = wc.heap.size + 1 := at6
          have g6cb : g6 ≠ cb := by
            rcases g6s with e | e
            · exact (hCw.ks g6 e).2.1
            · omega
          have g6N : A1.N.ownBlock ≠ some g6 := by
            rcases g6s with e | e
            · exact (hCw.ks g6 e).2.2.2.2
            · intro e2
              have := (hCw.nr.lt g6 e2).2
              omega
          have g7cb : g7 ≠ cb := by
            rcases at7 with e | e
            · exact (hCw.ns g7 e).2.1
            · omega
          have krV : V.ownsRow 0 124 2 (.slice (some ⟨g6, 0, none⟩) (j + 1) p6) (j + 1) (knR (j + 1) kn) := by
            rw [← hV, knR_snoc, hla, hlb]
            exact own_else own6 (Un.Else.set (S := fun k => k = cb) w6 (p := ⟨cb, 6, none⟩) rfl _) fun k hk => by cases hk; exact g6cb
          have krV2 := own_else krV hE72 fun k hk e => by
            cases hk
            exact e.elim g6cb g6N
          have nrV2 : V2.ownsRow 0 3 1 (.slice (some ⟨g7, 0, none⟩) (j + 1) p7) (j + 1) (rowI (j + 1) nx) := by
            rw [← hV2, Un.rowI_snoc, hnx j hj]
            exact own_else own7 (Un.Else.set (S := fun k => k = cb) w7 (p := ⟨cb, 7, none⟩) rfl _) fun k hk => by cases hk; exact g7cb
          have hKo : (Value.slice (some ⟨g6, 0, none⟩) (j + 1) p6).ownBlock = A1.K.ownBlock ∨ ∃ b, (Value.slice (some ⟨g6, 0, none⟩) (j + 1) p6).ownBlock = some b ∧ wc.heap.size ≤ b := by
            rcases g6s with e | e
            · exact .inl e.symm
            · exact .inr ⟨g6, rfl, by omega⟩
          have hNo : (Value.slice (some ⟨g7, 0, none⟩) (j + 1) p7).ownBlock = A1.N.ownBlock ∨ ∃ b, (Value.slice (some ⟨g7, 0, none⟩) (j + 1) p7).ownBlock = some b ∧ wc.heap.size ≤ b := by
            rcases at7 with e | e
            · exact .inl e.symm
            · exact .inr ⟨g7, rfl, by have := hEV.size; omega⟩
          have hKN : ∀ k, (Value.slice (some ⟨g6, 0, none⟩) (j + 1) p6).ownBlock = some k → (Value.slice (some ⟨g7, 0, none⟩) (j + 1) p7).ownBlock ≠ some k := by
            intro k hk hk2
            have e6 : g6 = k := Option.some.inj hk
            have e7 : g7 = k := Option.some.inj hk2
            obtain ⟨_, h6⟩ := own_cells krV2 (by omega)
            obtain ⟨_, h7⟩ := own_cells nrV2 (by omega)
            rw [e6] at h6
            rw [e7, h6] at h7
            cases h7
          have HADD := add_any hSX hBare (by omega) (fun k hk => hco j k hj hk) (hro j hj)
          have hlV2 := (Array.getElem?_eq_some_iff.1 hFV2).1
          have HQ := Lib.hid (And.intro hCw (And.intro hE2 (And.intro krV2 (And.intro nrV2 (And.intro hKo (And.intro hNo (And.intro hKN hbw)))))))
          clear g6s g6cb g6N g7cb krV krV2 nrV2 hKo hNo hKN hCw hE2 own6 own7 at6 at7 hE72 hE7 hSX hBare hbb hFV2 hF7 hFV hEV nrV gr7 hbw hKe hla hlb hE6 hF6 hFc hNe HW b0 b1 c6 d6 run6 hl6 hz6
          rw [hV]
          clear hV
          go_wp2_with fail
          refine HADD.mono ?_
          rintro e w8 ⟨rfl, f0', c', fo', S', hs, hS1, hS2, hf, hE8⟩
          have HZ := Lib.hid (And.intro hs (And.intro hS1 (And.intro hS2 (And.intro hf hE8))))
          clear hs hS1 hS2 hf hE8 HADD
          go_wp2_with fail
          obtain ⟨hCw, hE2, krV2, nrV2, hKo, hNo, hKN, hbw⟩ := HQ.out
          obtain ⟨hs, hS1, hS2, hf, hE8⟩ := HZ.out
          obtain ⟨r1, r2⟩ := grow_fin hCw hE2 krV2 nrV2 hKo hNo hKN hE8 hs hS1 hS2 hf
          have hsz : w.heap.size ≤ w2.heap.size := HH.out.2.2.size
          have hsz2 := hbw.size
          refine ⟨⟨j + 1, A1.up f0' c' fo' _ _ S', congrArg (Value.int .i64) (by omega), by omega, by omega, r1.owned fun k hk => ?_, fun h0 => by omega, ?_⟩, ?_⟩
          · rcases hk with hk | hk
            · exact hk
            · exact .inr (by omega)
          · exact ((HH.out.2.2.mono fun k hk => .inl hk).trans ((Else.of_below (S := fun k => O k ∨ w.heap.size ≤ k) hbw).trans r2)).old fun k hk => hk
          · show G.length - (intOf (.int .i64 ((j : Int) + 1))).toNat < G.length - (intOf (.int .i64 (j : Nat))).toNat
            simp only [intOf]
            omega
    · obtain rfl : j = G.length := by omega
      have f1 : decide ((G.length : Int) < (G.length : Int)) = false := decide_eq_false (by omega)
      go_wp2_with fail
      refine HL.mono ?_
      rintro e w2 ⟨rfl, rfl⟩
      go_wp2_with fail
      exact bodyPost_end (results_none rfl _ _ _) rfl ⟨rfl, ⟨A1, HH.out.1⟩, HH.out.2.2⟩
end
end Go.Proofs.YtojgiienohpaiaaGreat
namespace Go.Proofs.YtojgiienohpaiaaGreat
open Go.RowKit
set_option maxRecDepth 100000
def prC (T : List (Nat × Nat)) : List Value := T.flatMap fun x => [.int .i64 (x.1 : Nat), .int .i64 (x.2 : Nat)]
theorem prC_len (T : List (Nat × Nat)) : (prC T).length = T.length * 2 := by
  induction T with
  | nil => rfl
  | cons x T ih =>
    unfold prC at ih ⊢
    rw [List.flatMap_cons, List.length_append, ih]
    simp
    omega
theorem prC_app (T U : List (Nat × Nat)) : prC (T ++ U) = prC T ++ prC U := by simp [prC]
theorem prC_last (T : List (Nat × Nat)) (x : Nat × Nat) : (prC (T ++ [x]))[T.length * 2]? = some (.int .i64 (x.1 : Nat)) ∧ (prC (T ++ [x]))[T.length * 2 + 1]? = some (.int .i64 (x.2 : Nat)) := by
  have hl := prC_len T
  rw [prC_app, List.getElem?_append_right (by omega), List.getElem?_append_right (by omega), hl, show T.length * 2 - T.length * 2 = 0 by omega, show T.length * 2 + 1 - T.length * 2 = 1 by omega]
  exact ⟨rfl, rfl⟩
theorem prInfo : (Tryz.prog.info? 69).map (fun i => (i.zero, i.size, i.bytes)) = some (some (.agg #[.int .i64 0, .int .i64 0]), 2, 16) := by kernel_rfl
theorem app_pr (W : World) (v : Value) (T : List (Nat × Nat)) (base : Nat) (hb : base ≤ W.heap.size) (hown : W.ownsRow base 69 2 v T.length (prC T)) (x : Nat × Nat) (hm : T.length ≤ 100000000) :
    ∃ g cp w1, (app_ #[66, 66] 66 #[v, .slice (some ⟨W.heap.size, 0, none⟩) 1 1]).run Tryz.prog (W.alloc (.cells #[.int .i64 (x.1 : Nat), .int .i64 (x.2 : Nat)] 69)) = .ok (.slice (some ⟨g, 0, none⟩) (T.length + 1) cp) w1 ∧
      w1.ownsRow base 69 2 (.slice (some ⟨g, 0, none⟩) (T.length + 1) cp) (T ++ [x]).length (prC (T ++ [x])) ∧ (W.alloc (.cells #[.int .i64 (x.1 : Nat), .int .i64 (x.2 : Nat)] 69)).grownBy w1 v.ownBlock ∧ (v.ownBlock = some g ∨ g = W.heap.size + 1) := by
  obtain ⟨i0, hi0, hz0, hz1, hz2⟩ := Un.info_parts prInfo
  have rd1 : Rd (W.alloc (.cells #[.int .i64 (x.1 : Nat), .int .i64 (x.2 : Nat)] 69)) 2 (.slice (some ⟨W.heap.size, 0, none⟩) 1 1) 1 [.int .i64 (x.1 : Nat), .int .i64 (x.2 : Nat)] := rd_new W [.int .i64 (x.1 : Nat), .int .i64 (x.2 : Nat)] 69 2 1 rfl (by unfold maxLen; omega)
  obtain ⟨v', w1, hrun, hown1, hg1, hat⟩ := run_append_rd (P := Tryz.prog) _ base 66 66 69 i0 _ 2 16 Tryz.underlying66 hi0 hz0 hz1 hz2 rfl (by omega) v T.length (prC T) (hown.alloc _) _ 1 _ rd1 (by simp [Value.oneCell']) (by unfold maxLen; omega) (by omega) (by simp; omega)
  obtain ⟨g, cp, rfl, _, _⟩ := Un.own_shape hown1 (by omega)
  refine ⟨g, cp, w1, hrun, ?_, hg1, ?_⟩
  · rw [prC_app, List.length_append]; exact hown1
  rcases hat with e | e
  · exact .inl e.symm
  · right
    have e : some g = some (W.heap.size + 1) := by rw [← World.size_alloc W (.cells #[.int .i64 (x.1 : Nat), .int .i64 (x.2 : Nat)] 69)]; exact e
    injection e
theorem own_pop {w : World} {base g c : Nat} {T : List (Nat × Nat)} {x : Nat × Nat} (h : w.ownsRow base 69 2 (.slice (some ⟨g, 0, none⟩) (T ++ [x]).length c) (T ++ [x]).length (prC (T ++ [x]))) : w.ownsRow base 69 2 (.slice (some ⟨g, 0, none⟩) T.length c) T.length (prC T) := by
  rw [prC_app] at h
  exact own_cut h T.length (by simp) (prC_len T)
end Go.Proofs.YtojgiienohpaiaaGreat
namespace Go.Proofs.YtojgiienohpaiaaGreat
open Un (paint paint_eq cnt)
section
variable {G : List Gn} {n : Nat} {col ro ro' : Nat → Nat} {kn : Kn} {E T V : List (Nat × Nat)} {x y r k l : Nat} {p q : Gn}
theorem Js.hd (h : Js G n col ro kn E (T ++ [(x, y)])) (i j : Nat) : paint col (ro x) (ro y) i = paint col (ro x) (ro y) j ↔ (col i = col j ∨ (col i = col x ∨ col i = col y) ∧ (col j = col x ∨ col j = col y)) := by
  obtain ⟨hx, hy⟩ := h.pair
  rw [paint_eq, (h.rt x hx).2, (h.rt y hy).2]
theorem Js.last (e : Nat × Nat) : e ∈ T ++ [(x, y)] ↔ e = (x, y) ∨ e ∈ T := by simp [or_comm]
theorem Js.clash (h : Js G n col ro kn E (T ++ [(x, y)])) (hk : (kn (ro x)).1 = some k) (hl : (kn (ro y)).1 = some l) (hp : G[k]? = some p) (hq : G[l]? = some q) (hf : ¬ Fit p q) : Clash G E :=
  h.jn.clash h.md (a := x) (b := y) (by simp) hk hl hp hq hf
theorem Js.var (h : Js G n col ro kn E (T ++ [(x, y)])) (hm : (kn (ro x)).1 = none ∨ (kn (ro y)).1 = none) : Jn G (paint col (ro x) (ro y)) E T :=
  h.jn.joinVar h.md (a := x) (b := y) (fun e => Js.last e) h.hd hm
theorem Js.both (h : Js G n col ro kn E (T ++ [(x, y)])) (hk : (kn (ro x)).1 = some k) (hl : (kn (ro y)).1 = some l) (hp : G[k]? = some p) (hq : G[l]? = some q) (hf : Fit p q) : Jn G (paint col (ro x) (ro y)) E (T ++ pairs p.2.2.2 q.2.2.2) :=
  h.jn.joinBoth h.md (a := x) (b := y) (fun e => Js.last e) h.hd hk hl hp hq hf fun e => by simp
theorem Js.made (h : Js G n col ro kn E T) (hx : x < n) (hk : (kn (ro x)).1 = some k) : k < n ∧ ∃ p, G[k]? = some p ∧ p.1 ≠ 1 := by
  have hl := h.len
  obtain ⟨q, h1, h2, _⟩ := h.md.some x k (by omega) hk
  exact ⟨by have := lt_of_get h1; omega, q, h1, h2⟩
theorem Js.vn (h : Js G n col ro kn E T) (hx : x < n) : Vn n G (kn (ro x)).2 := by
  intro l hl
  obtain ⟨h1, h2, _⟩ := h.le.is x l hx hl
  exact ⟨h1, h2⟩
theorem Js.two (h : Js G n col ro kn E T) (hx : x < n) (hy : y < n) (hne : ro x ≠ ro y) (a b : Nat) (ha : (kn (ro x)).2 = some a) (hb : (kn (ro y)).2 = some b) : a ≠ b := by
  rintro rfl
  obtain ⟨_, _, h3, _⟩ := h.le.is x a hx ha
  obtain ⟨_, _, h4, _⟩ := h.le.is y a hy hb
  exact hne (h.un x y hx hy (h3.symm.trans h4))
theorem Js.fewer (h : Js G n col ro kn E T) (hx : x < n) (hy : y < n) (hne : ro x ≠ ro y) : cnt n (paint col (ro x) (ro y)) + 1 = cnt n col := by
  have hc : col (ro x) ≠ col (ro y) := fun e => hne (h.un x y hx hy (by rw [← (h.rt x hx).2, ← (h.rt y hy).2, e]))
  have := Un.cnt_paint (h.rt x hx).1 (h.rt y hy).1 hc
  omega
end
end Go.Proofs.YtojgiienohpaiaaGreat
namespace Go.Proofs.YtojgiienohpaiaaGreat
open Un (paint paint_eq cnt Rings Ker swp)
def isV (G : List Gn) (i : Nat) : Bool := match G[i]? with
  | some p => p.1 == 1
  | none => false
theorem isV_of {G : List Gn} {i : Nat} (h : ∃ p, G[i]? = some p ∧ p.1 = 1) : isV G i = true := by
  obtain ⟨p, h1, h2⟩ := h
  simp [isV, h1, h2]
theorem of_isV {G : List Gn} {i : Nat} (h : isV G i = true) : ∃ p, G[i]? = some p ∧ p.1 = 1 := by
  unfold isV at h
  cases e : G[i]? with
  | none => rw [e] at h; cases h
  | some p => rw [e] at h; exact ⟨p, rfl, by simpa using h⟩
def vc (G : List Gn) (col : Nat → Nat) (i : Nat) : Nat := if isV G i = true then 2 * col i else 2 * i + 1
section
variable {G : List Gn} {n : Nat} {col ro ro' nx : Nat → Nat} {kn : Kn} {E T V : List (Nat × Nat)} {x y r k l : Nat} {p q : Gn}
theorem vc_iff (i j : Nat) : vc G col i = vc G col j ↔ i = j ∨ (isV G i = true ∧ isV G j = true ∧ col i = col j) := by
  unfold vc
  constructor
  · intro h
    split at h <;> split at h
    · exact .inr ⟨‹_›, ‹_›, by omega⟩
    · omega
    · omega
    · exact .inl (by omega)
  · rintro (rfl | ⟨h1, h2, h3⟩)
    · rfl
    · rw [if_pos h1, if_pos h2, h3]
theorem Js.rings (h : Js G n col ro kn E (T ++ [(x, y)])) (hne : ro x ≠ ro y) (hR : Rings n nx (vc G col)) : Rings n (mr nx (kn (ro x)).2 (kn (ro y)).2) (vc G (paint col (ro x) (ro y))) := by
  obtain ⟨hx, hy⟩ := h.pair
  have cx := (h.rt x hx).2
  have cy := (h.rt y hy).2
  have hc : col x ≠ col y := fun e => hne (h.un x y hx hy e)
  have hd := h.hd
  have hno : ((kn (ro x)).2 = none ∨ (kn (ro y)).2 = none) → Ker n (vc G col) (vc G (paint col (ro x) (ro y))) := by
    intro hn i j hi hj
    rw [vc_iff, vc_iff, hd]
    constructor
    · rintro (e | ⟨e1, e2, e3⟩)
      · exact .inl e
      · exact .inr ⟨e1, e2, .inl e3⟩
    · rintro (e | ⟨e1, e2, e3 | ⟨e3, e4⟩⟩)
      · exact .inl e
      · exact .inr ⟨e1, e2, e3⟩
      · obtain ⟨pi, hpi, pi1⟩ := of_isV e1
        obtain ⟨pj, hpj, pj1⟩ := of_isV e2
        refine .inr ⟨e1, e2, ?_⟩
        rcases hn with hn | hn
        · have f1 := h.le.no x i pi hx hn hpi pi1
          have f2 := h.le.no x j pj hx hn hpj pj1
          rcases e3 with e3 | e3
          · exact absurd e3 f1
          · rcases e4 with e4 | e4
            · exact absurd e4 f2
            · exact e3.trans e4.symm
        · have f1 := h.le.no y i pi hy hn hpi pi1
          have f2 := h.le.no y j pj hy hn hpj pj1
          rcases e3 with e3 | e3
          · rcases e4 with e4 | e4
            · exact e3.trans e4.symm
            · exact absurd e4 f2
          · exact absurd e3 f1
  cases hlx : (kn (ro x)).2 with
  | none =>
    have : mr nx none (kn (ro y)).2 = nx := by cases (kn (ro y)).2 <;> rfl
    rw [this]
    exact hR.ker (hno (.inl hlx))
  | some a => cases hly : (kn (ro y)).2 with
    | none => exact hR.ker (hno (.inr hly))
    | some b =>
      obtain ⟨ha, hva, ca, _⟩ := h.le.is x a hx hlx
      obtain ⟨hb, hvb, cb, _⟩ := h.le.is y b hy hly
      have va := isV_of hva
      have vb := isV_of hvb
      have hab : vc G col a ≠ vc G col b := by
        rw [Ne, vc_iff]
        rintro (rfl | ⟨_, _, e⟩)
        · exact hc (ca.symm.trans cb)
        · exact hc (by rw [← ca, ← cb, e])
      refine (hR.join ha hb hab).ker fun i j hi hj => ?_
      rw [paint_eq, vc_iff, vc_iff, vc_iff, vc_iff, vc_iff, vc_iff, hd, ca, cb]
      simp only [va, vb, true_and]
      constructor
      · rintro ((rfl | ⟨e1, e2, e3⟩) | ⟨e1, e2⟩)
        · exact .inl rfl
        · exact .inr ⟨e1, e2, .inl e3⟩
        · have f1 : isV G i = true ∧ (col i = col x ∨ col i = col y) := by
            rcases e1 with (rfl | e) | (rfl | e)
            · exact ⟨va, .inl ca⟩
            · exact ⟨e.1, .inl e.2⟩
            · exact ⟨vb, .inr cb⟩
            · exact ⟨e.1, .inr e.2⟩
          have f2 : isV G j = true ∧ (col j = col x ∨ col j = col y) := by
            rcases e2 with (rfl | e) | (rfl | e)
            · exact ⟨va, .inl ca⟩
            · exact ⟨e.1, .inl e.2⟩
            · exact ⟨vb, .inr cb⟩
            · exact ⟨e.1, .inr e.2⟩
          exact .inr ⟨f1.1, f2.1, .inr ⟨f1.2, f2.2⟩⟩
      · rintro (rfl | ⟨e1, e2, e3 | ⟨e3, e4⟩⟩)
        · exact .inl (.inl rfl)
        · exact .inl (.inr ⟨e1, e2, e3⟩)
        · exact .inr ⟨e3.imp (fun e => .inr ⟨e1, e⟩) fun e => .inr ⟨e1, e⟩, e4.imp (fun e => .inr ⟨e2, e⟩) fun e => .inr ⟨e2, e⟩⟩
theorem Cl.model {α : Type} (val : Nat → α) (hE : ∀ a b, (a, b) ∈ E → val a = val b)
    (hI : ∀ (x y : Nat) (p q : Gn), G[x]? = some p → G[y]? = some q → p.1 ≠ 1 → q.1 ≠ 1 → val x = val y → Fit p q ∧ ∀ (j a b : Nat), p.2.2.2[j]? = some a → q.2.2.2[j]? = some b → val a = val b) {a b : Nat} (h : Cl G E a b) : val a = val b := by
  induction h with
  | eq h => exact hE _ _ h
  | refl a => rfl
  | symm _ ih => exact ih.symm
  | trans _ _ i1 i2 => exact i1.trans i2
  | part _ hp hq p1 q1 _ _ ha hb ih => exact (hI _ _ _ _ hp hq p1 q1 ih).2 _ _ _ ha hb
theorem Clash.model {α : Type} (val : Nat → α) (hE : ∀ a b, (a, b) ∈ E → val a = val b)
    (hI : ∀ (x y : Nat) (p q : Gn), G[x]? = some p → G[y]? = some q → p.1 ≠ 1 → q.1 ≠ 1 → val x = val y → Fit p q ∧ ∀ (j a b : Nat), p.2.2.2[j]? = some a → q.2.2.2[j]? = some b → val a = val b) : ¬ Clash G E := by
  rintro ⟨x, y, p, q, h1, hp, hq, p1, q1, hf⟩
  exact hf (hI x y p q hp hq p1 q1 (h1.model val hE hI)).1
theorem Js.known (h : Js G n col ro kn E []) (hx : x < n) (hc : Cl G E x y) (hy : G[y]? = some q) (q1 : q.1 ≠ 1) : ∃ k p, (kn (ro x)).1 = some k ∧ G[k]? = some p ∧ p.1 ≠ 1 ∧ Fit p q ∧ Cl G E x k := by
  have hl := h.len
  have hyn := lt_of_get hy
  have hxy : col x = col y := by
    rcases h.jn.done.1 hc with e | e
    · rw [e]
    · exact e.2.2
  cases hk : (kn (ro x)).1 with
  | none => exact absurd (h.md.none y q hy ((h.md.col x y (by omega) hyn hxy).symm.trans hk)) q1
  | some k =>
    obtain ⟨p, hp, p1, hck⟩ := h.md.some x k (by omega) hk
    have hxk : Cl G E x k := h.jn.done.2 (.inr ⟨by omega, lt_of_get hp, hck.symm⟩)
    refine ⟨k, p, rfl, hp, p1, ?_, hxk⟩
    exact (h.jn.fit k y p q hp hy (hck.trans hxy) p1 q1).1
theorem Js.same (h : Js G n col ro kn E []) (hx : x < n) (hy : y < n) : ro x = ro y ↔ Cl G E x y := by
  have hl := h.len
  rw [h.jn.done]
  constructor
  · intro e
    exact .inr ⟨by omega, by omega, by rw [← (h.rt x hx).2, ← (h.rt y hy).2, e]⟩
  · rintro (rfl | ⟨_, _, e⟩)
    · rfl
    · exact h.un x y hx hy e
theorem rings_grow {m : Nat} {c d ny : Nat → Nat} (h : Rings n nx c) (hnm : n ≤ m) (h1 : ∀ i, i < n → ny i = nx i) (h2 : ∀ i, n ≤ i → ny i = i) (h3 : ∀ i j, i < n → j < n → (c i = c j ↔ d i = d j)) (h4 : ∀ i j, n ≤ i → i < m → j < m → d j = d i → j = i) : Rings m ny d := by
  intro i hi
  by_cases hin : i < n
  · obtain ⟨L, g1, g2, g3, g4⟩ := h i hin
    refine ⟨L, g1.same fun k hk => h1 k ((g4 k).1 hk).1, g2, g3, fun j => ⟨fun hj => ?_, fun ⟨hj, e⟩ => ?_⟩⟩
    · obtain ⟨k1, k2⟩ := (g4 j).1 hj
      exact ⟨by omega, (h3 j i k1 hin).1 k2⟩
    · by_cases hjn : j < n
      · exact (g4 j).2 ⟨hjn, (h3 j i hjn hin).2 e⟩
      · have := h4 j i (by omega) hj hi e.symm
        omega
  · refine ⟨[i], ?_, by simp, by simp, fun j => ?_⟩
    · exact .cons (by rw [h2 i (by omega)]; exact .nil _)
    · simp only [List.mem_singleton]
      exact ⟨fun e => by subst e; exact ⟨hi, rfl⟩, fun ⟨hj, e⟩ => h4 i j (by omega) hi hj e⟩
end
end Go.Proofs.YtojgiienohpaiaaGreat
namespace Go.Proofs.YtojgiienohpaiaaGreat
open Go.RowKit
open Un (Else StM rowI UFo own_else dg swp wp_world paint cnt)
set_option maxRecDepth 100000
section
variable {O T : Nat → Prop} {w w' V : World} {cb : Nat} {A : Adr} {st : Int} {cl : Bool} {n : Nat} {G : List Gn} {kn : Kn} {nx col ro col' ro' : Nat → Nat} {fs fs' : Int} {E : List (Nat × Nat)}
def JaR (O : Nat → Prop) (w : World) (cb : Nat) (A : Adr) (st : Int) (n : Nat) (G : List Gn) (fs : Int) (E : List (Nat × Nat)) (M : Nat) (s : Value) (wr : World) : Prop :=
  ∃ (T : List (Nat × Nat)) (g c k : Nat) (kn : Kn) (nx col ro : Nat → Nat) (fs' : Int), s = .slice (some ⟨g, 0, none⟩) T.length c ∧ w.heap.size ≤ g ∧ wr.ownsRow w.heap.size 69 2 s T.length (prC T) ∧ ClM O wr cb A (st + k) false n G kn nx col ro fs' ∧ Js G n col ro kn E T ∧ Un.Rings n nx (vc G col) ∧
    fs ≤ fs' ∧ fs' ≤ fs + 4 * (dg n : Nat) * k ∧ k + 9 * cnt n col + T.length ≤ M ∧ Else (fun b => O b ∨ w.heap.size ≤ b) w wr
def todoN : Value → Nat
  | .slice _ m _ => m
  | _ => 0
theorem root_cl (h : ClM O w cb A st cl n G kn nx col ro fs) (hst : 0 ≤ fs ∧ fs ≤ 10000000000000) (i : Nat) (hi : i < n) : Calls Tryz.prog 72 #[.pointer (some ⟨cb, 3, none⟩), .int .i64 (i : Nat)] w fun e w' => ∃ k : Nat, e = .returned (.int .i64 (ro i : Nat)) ∧ k ≤ dg n ∧ ClM O w' cb A st cl n G kn nx col ro (fs + k) ∧ Else A.S w w' :=
  (Un.root_st (h.stm (by omega)) (by omega) i hi).mono fun _ _ ⟨k, h1, h2, h3, h4⟩ => ⟨k, h1, h2, h.turn h4 h3, h4⟩
theorem start_todo (w : World) (l r : Nat) : (w.alloc (.cells #[.int .i64 (l : Nat), .int .i64 (r : Nat)] 69)).ownsRow w.heap.size 69 2 (.slice (some ⟨w.heap.size, 0, none⟩) 1 1) 1 (prC [(l, r)]) :=
  ⟨rfl, .inr ⟨w.heap.size, 1, #[.int .i64 (l : Nat), .int .i64 (r : Nat)], rfl, Nat.le_refl _, heap_alloc_new _ _, Nat.le_refl _, by unfold maxLen; omega, rfl, rfl⟩⟩
def stepsOf (cb : Nat) (w : World) : Int := match w.cell? ⟨cb, 0, none⟩ with
  | some (.int _ m) => m
  | _ => 0
def JaPost (O : Nat → Prop) (w : World) (cb : Nat) (A : Adr) (st : Int) (n : Nat) (G : List Gn) (fs : Int) (E : List (Nat × Nat)) (M : Nat) (e : Go.Ending) (w' : World) : Prop :=
  e = .returned (.tuple #[]) ∧ (∃ (cl : Bool) (k : Nat) (kn : Kn) (nx col ro : Nat → Nat) (fs' : Int), ClM O w' cb A (st + k + (fs' - fs)) cl n G kn nx col ro fs' ∧ fs ≤ fs' ∧ fs' ≤ fs + 4 * (dg n : Nat) * k ∧ k ≤ M ∧ (cl = true → Clash G E) ∧ (cl = false → Js G n col ro kn E [] ∧ Un.Rings n nx (vc G col) ∧ k + 9 * cnt n col ≤ M)) ∧ Else O w w'
end
end Go.Proofs.YtojgiienohpaiaaGreat
