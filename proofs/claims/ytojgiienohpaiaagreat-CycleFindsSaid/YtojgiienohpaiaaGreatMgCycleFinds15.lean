/- Texts of one proof, one behind the other. -/
import Derived.Test.YtojgiienohpaiaaGreatMgCycleFinds14
import Derived.Test.YtojgiienohpaiaaGreatMgCycleFinds11
import Derived.Test.YtojgiienohpaiaaGreatMgCycleFinds9
namespace Go.Proofs.YtojgiienohpaiaaGreat
open Go.RowKit
open Un (Else StM rowI UFo own_else dg)
set_option maxRecDepth 100000
def oi : Option Nat → Int
  | some k => k
  | none => -1
abbrev Kn := Nat → Option Nat × Option Nat
def knR (n : Nat) (kn : Kn) : List Value := (List.range n).flatMap fun i => [.int .i64 (oi (kn i).1), .int .i64 (oi (kn i).2)]
structure Adr where
  g : Nat
  mb : Nat
  V : Value
  L : List Nd
  f0 : Nat
  c : Nat
  fo : Nat
  ob : Nat
  K : Value
  N : Value
  S : Nat → Prop
def Adr.D (A : Adr) (k : Nat) : Prop := k = A.g ∨ k = A.mb ∨ A.V.ownBlock = some k ∨ ∃ x ∈ A.L, (slv x.2.2.2).ownBlock = some k
def Adr.F (A : Adr) (cb : Nat) (k : Nat) : Prop := A.S k ∨ k = cb ∨ k = A.ob ∨ k = A.f0 ∨ A.K.ownBlock = some k ∨ A.N.ownBlock = some k
theorem NdL.stay {B : Nat} {w w' : World} {L : List Nd} {G : List Gn} (h : NdL B w L G) (hk : ∀ x ∈ L, ∀ b, (slv x.2.2.2).ownBlock = some b → w'.heap[b]? = w.heap[b]?) : NdL B w' L G := by
  induction L generalizing G with
  | nil => cases G with
    | nil => trivial
    | cons => exact h.elim
  | cons x L ih => cases G with
    | nil => exact h.elim
    | cons y G =>
      obtain ⟨⟨h1, h2, h3, h4⟩, h5⟩ := h
      refine ⟨⟨h1, h2, h3, h4.1, ?_⟩, ih h5 fun z hz => hk z (List.mem_cons_of_mem _ hz)⟩
      rcases h4.2 with h | ⟨g, cap, cur, hv, hb, hg, hr⟩
      · exact .inl h
      · exact .inr ⟨g, cap, cur, hv, hb, (hk x List.mem_cons_self g (by rw [hv]; rfl)).trans hg, hr⟩
theorem GrM.stay {B : Nat} {w w' : World} {A : Adr} {G : List Gn} (h : GrM B w A.g A.V A.mb A.L G) (hk : ∀ k, A.D k → w'.heap[k]? = w.heap[k]?) : GrM B w' A.g A.V A.mb A.L G := by
  refine ⟨(hk _ (.inl rfl)).trans h.cell, ⟨h.row.1, ?_⟩, h.nodes.stay fun x hx b hb => hk b (.inr (.inr (.inr ⟨x, hx, hb⟩))), ?_, h.ge⟩
  · rcases h.row.2 with h2 | ⟨b, cap, cur, hv, hb, hh, hr2⟩
    · exact .inl h2
    · exact .inr ⟨b, cap, cur, hv, hb, (hk b (.inr (.inr (.inl (by rw [hv]; rfl))))).trans hh, hr2⟩
  · obtain ⟨S, hv⟩ := h.vars
    exact ⟨S, hv.block (hk _ (.inr (.inl rfl)))⟩
theorem NdL.blocks {B : Nat} {w : World} {L : List Nd} {G : List Gn} (h : NdL B w L G) : ∀ x ∈ L, ∀ b, (slv x.2.2.2).ownBlock = some b → b < w.heap.size := by
  induction L generalizing G with
  | nil => intro x hx; cases hx
  | cons y L ih => cases G with
    | nil => exact h.elim
    | cons z G =>
      intro x hx b hb
      rcases List.mem_cons.1 hx with rfl | hx
      · exact (h.1.2.2.2.lt b hb).2
      · exact ih h.2 x hx b hb
theorem own_zero {w : World} {base : Nat} {e : TypeId} {size : Nat} {v : Value} {n : Nat} {xs : List Value} (h : w.ownsRow base e size v n xs) : w.ownsRow 0 e size v n xs := by
  refine ⟨h.1, ?_⟩
  rcases h.2 with h | ⟨g, cap, cur, hv, hb, hr⟩
  · exact .inl h
  · exact .inr ⟨g, cap, cur, hv, Nat.zero_le _, hr⟩
theorem NdL.zero {B : Nat} {w : World} {L : List Nd} {G : List Gn} (h : NdL B w L G) : NdL 0 w L G := by
  induction L generalizing G with
  | nil => cases G with
    | nil => trivial
    | cons => exact h.elim
  | cons x L ih => cases G with
    | nil => exact h.elim
    | cons y G => exact ⟨⟨h.1.1, h.1.2.1, h.1.2.2.1, own_zero h.1.2.2.2⟩, ih h.2⟩
theorem GrM.zero {B : Nat} {w : World} {g mb : Nat} {v : Value} {L : List Nd} {G : List Gn} (h : GrM B w g v mb L G) : GrM 0 w g v mb L G :=
  ⟨h.cell, own_zero h.row, h.nodes.zero, h.vars, Nat.zero_le _, Nat.zero_le _⟩
theorem GrM.blocks {B : Nat} {w : World} {A : Adr} {G : List Gn} (h : GrM B w A.g A.V A.mb A.L G) {k : Nat} (hk : A.D k) : k < w.heap.size := by
  rcases hk with rfl | rfl | hk | ⟨x, hx, hk⟩
  · exact h.lt.1
  · exact h.lt.2
  · exact (h.row.lt k hk).2
  · exact h.nodes.blocks x hx k hk
def StX (S : Nat → Prop) (w : World) (cb : Nat) (x0 x1 x2 : Value) (f0 c fo ob : Nat) (x6 x7 : Value) (n : Nat) (col ro : Nat → Nat) (fs : Int) : Prop :=
  StM S w cb x0 x1 x2 f0 c fo ob x6 x7 n col ro fs ∨
    (n = 0 ∧ (fs = 0 ∧ f0 = cb) ∧ w.heap[cb]? = some (Obj.cells #[x0, x1, x2, .slice none 0 0, .int .i64 0, .map (some ob), x6, x7] 100) ∧ MapF (fun _ => none) 0 0 ob w)
structure ClM (O : Nat → Prop) (w : World) (cb : Nat) (A : Adr) (st : Int) (cl : Bool) (n : Nat) (G : List Gn) (kn : Kn) (nx col ro : Nat → Nat) (fs : Int) : Prop where
  sets : StX A.S w cb (.int .i64 st) (.bool cl) (.pointer (some ⟨A.g, 0, none⟩)) A.f0 A.c A.fo A.ob A.K A.N n col ro fs
  gr : GrM 0 w A.g A.V A.mb A.L G
  kr : w.ownsRow 0 124 2 A.K n (knR n kn)
  nr : w.ownsRow 0 3 1 A.N n (rowI n nx)
  d : ∀ k, A.D k → ¬ A.F cb k
  ks : ∀ k, A.K.ownBlock = some k → ¬ A.S k ∧ k ≠ cb ∧ k ≠ A.ob ∧ k ≠ A.f0 ∧ A.N.ownBlock ≠ some k
  ns : ∀ k, A.N.ownBlock = some k → ¬ A.S k ∧ k ≠ cb ∧ k ≠ A.ob ∧ k ≠ A.f0
  own : ∀ k, A.D k ∨ A.F cb k → O k
  sb : ∀ k, A.S k → k < w.heap.size
section
variable {O T : Nat → Prop} {w w' : World} {cb : Nat} {A : Adr} {st : Int} {cl : Bool} {n : Nat} {G : List Gn} {kn : Kn} {nx col ro col' ro' : Nat → Nat} {fs fs' : Int}
theorem StM.keep {S : Nat → Prop} {x0 x1 x2 x6 x7 : Value} {f0 fo ob c : Nat} (h : StM S w cb x0 x1 x2 f0 c fo ob x6 x7 n col ro fs) (he : Else T w w') (h1 : ¬ T cb) (h2 : ¬ T ob) (h3 : ¬ T f0) (h4 : ∀ k, S k → ¬ T k) : StM S w' cb x0 x1 x2 f0 c fo ob x6 x7 n col ro fs :=
  ⟨(he.block cb (Array.getElem?_eq_some_iff.1 h.blk).1 h1).trans h.blk, h.map.block (he.block ob h.map.lt h2), h.ncb, h.nob, h.nf0, own_else h.row he (fun k hk => by cases hk; exact h3), h.uf.keep he h4⟩
theorem StX.keep {S : Nat → Prop} {x0 x1 x2 x6 x7 : Value} {f0 fo ob c : Nat} (h : StX S w cb x0 x1 x2 f0 c fo ob x6 x7 n col ro fs) (he : Else T w w') (h1 : ¬ T cb) (h2 : ¬ T ob) (h3 : ¬ T f0) (h4 : ∀ k, S k → ¬ T k) : StX S w' cb x0 x1 x2 f0 c fo ob x6 x7 n col ro fs := by
  rcases h with h | ⟨e1, e2, e3, e4⟩
  · exact .inl (StM.keep h he h1 h2 h3 h4)
  · exact .inr ⟨e1, e2, (he.block cb (Array.getElem?_eq_some_iff.1 e3).1 h1).trans e3, e4.block (he.block ob e4.lt h2)⟩
theorem ClM.aside (h : ClM O w cb A st cl n G kn nx col ro fs) (he : Else T w w') (ht : ∀ k, A.D k ∨ A.F cb k → ¬ T k) : ClM O w' cb A st cl n G kn nx col ro fs :=
  have hF : ∀ k, A.F cb k → ¬ T k := fun k hk => ht k (.inr hk)
  ⟨StX.keep h.sets he (hF _ (.inr (.inl rfl))) (hF _ (.inr (.inr (.inl rfl)))) (hF _ (.inr (.inr (.inr (.inl rfl))))) (fun k hk => hF k (.inl hk)),
   h.gr.stay fun k hk => he.block k (h.gr.blocks hk) (ht k (.inl hk)), own_else h.kr he (fun k hk => hF k (.inr (.inr (.inr (.inr (.inl hk)))))), own_else h.nr he (fun k hk => hF k (.inr (.inr (.inr (.inr (.inr hk)))))), h.d, h.ks, h.ns, h.own, fun k hk => Nat.lt_of_lt_of_le (h.sb k hk) he.size⟩
theorem ClM.keep (h : ClM O w cb A st cl n G kn nx col ro fs) (he : Else T w w') (ht : ∀ k, O k → ¬ T k) : ClM O w' cb A st cl n G kn nx col ro fs :=
  h.aside he fun k hk => ht k (h.own k hk)
theorem ClM.lt (h : ClM O w cb A st cl n G kn nx col ro fs) {k : Nat} (hk : A.D k ∨ A.F cb k) : k < w.heap.size := by
  rcases hk with hk | hk | rfl | rfl | rfl | hk | hk
  · exact h.gr.blocks hk
  · exact h.sb k hk
  · rcases h.sets with h | ⟨_, _, h, _⟩
    · exact (Array.getElem?_eq_some_iff.1 h.blk).1
    · exact (Array.getElem?_eq_some_iff.1 h).1
  · rcases h.sets with h | ⟨_, _, _, h⟩
    · exact h.map.lt
    · exact h.lt
  · rcases h.sets with h | ⟨_, ⟨_, e⟩, h, _⟩
    · exact (h.row.lt _ rfl).2
    · rw [e]; exact (Array.getElem?_eq_some_iff.1 h).1
  · exact (h.kr.lt k hk).2
  · exact (h.nr.lt k hk).2
theorem ClM.turn (h : ClM O w cb A st cl n G kn nx col ro fs) (he : Else A.S w w') (hs : StM A.S w' cb (.int .i64 st) (.bool cl) (.pointer (some ⟨A.g, 0, none⟩)) A.f0 A.c A.fo A.ob A.K A.N n col' ro' fs') : ClM O w' cb A st cl n G kn nx col' ro' fs' :=
  ⟨.inl hs, h.gr.stay fun k hk => he.block k (h.gr.blocks hk) fun hx => h.d k hk (.inl hx), own_else h.kr he (fun k hk => (h.ks k hk).1), own_else h.nr he (fun k hk => (h.ns k hk).1), h.d, h.ks, h.ns, h.own, fun k hk => Nat.lt_of_lt_of_le (h.sb k hk) he.size⟩
theorem ClM.stm (h : ClM O w cb A st cl n G kn nx col ro fs) (hn : 0 < n) : StM A.S w cb (.int .i64 st) (.bool cl) (.pointer (some ⟨A.g, 0, none⟩)) A.f0 A.c A.fo A.ob A.K A.N n col ro fs := by
  rcases h.sets with h | ⟨h, _⟩
  · exact h
  · omega
theorem ClM.blk (h : ClM O w cb A st cl n G kn nx col ro fs) : ∃ F, w.heap[cb]? = some (Obj.cells #[.int .i64 st, .bool cl, .pointer (some ⟨A.g, 0, none⟩), F, .int .i64 n, .map (some A.ob), A.K, A.N] 100) := by
  rcases h.sets with h | ⟨h, _, h2, _⟩
  · exact ⟨_, h.blk⟩
  · subst h; exact ⟨_, h2⟩
theorem ClM.cells (h : ClM O w cb A st cl n G kn nx col ro fs) : cb < w.heap.size ∧ (∀ k, w.frozen? ⟨cb, k, none⟩ = false) ∧ w.cell? ⟨cb, 0, none⟩ = some (.int .i64 st) ∧ w.cell? ⟨cb, 1, none⟩ = some (.bool cl) ∧ w.cell? ⟨cb, 2, none⟩ = some (.pointer (some ⟨A.g, 0, none⟩)) ∧ w.cell? ⟨cb, 6, none⟩ = some A.K ∧ w.cell? ⟨cb, 7, none⟩ = some A.N := by
  obtain ⟨F, hb⟩ := h.blk
  exact ⟨(Array.getElem?_eq_some_iff.1 hb).1, fun k => by simp [World.frozen?, hb], cell_of_row w cb 0 _ _ _ hb, cell_of_row w cb 1 _ _ _ hb, cell_of_row w cb 2 _ _ _ hb, cell_of_row w cb 6 _ _ _ hb, cell_of_row w cb 7 _ _ _ hb⟩
theorem ClM.set0 (h : ClM O w cb A st cl n G kn nx col ro fs) (st' : Int) : ClM O (w.setCell ⟨cb, 0, none⟩ (.int .i64 st')) cb A st' cl n G kn nx col ro fs := by
  have hE : Else (fun k => k = cb) w (w.setCell ⟨cb, 0, none⟩ (.int .i64 st')) := Un.Else.set (S := fun k => k = cb) w (p := ⟨cb, 0, none⟩) rfl _
  refine ⟨?_, h.gr.stay fun k hk => hE.block k (h.gr.blocks hk) fun e => h.d k hk (.inr (.inl e)), own_else h.kr hE fun k hk => (h.ks k hk).2.1, own_else h.nr hE fun k hk => (h.ns k hk).2.1, h.d, h.ks, h.ns, h.own, fun k hk => Nat.lt_of_lt_of_le (h.sb k hk) hE.size⟩
  rcases h.sets with h | ⟨e1, e2, e3, e4⟩
  · have hne : A.f0 ≠ cb := fun e => Un.row_ne h.row h.blk (by decide) (by rw [e]; rfl)
    have hoc : A.ob ≠ cb := fun e => by
      obtain ⟨_, _, ⟨_, _, hm, _⟩, _⟩ := h.map
      rw [e, h.blk] at hm
      cases hm
    exact .inl ⟨heap_setCell_same w cb 0 _ _ _ h.blk, h.map.block (hE.block _ h.map.lt hoc), h.ncb, h.nob, h.nf0, own_else h.row hE fun k hk => by cases hk; exact hne, h.uf.keep hE fun k hk e => by subst e; exact h.ncb hk⟩
  · have hoc : A.ob ≠ cb := fun e => by
      obtain ⟨_, _, ⟨_, _, hm, _⟩, _⟩ := e4
      rw [e, e3] at hm
      cases hm
    exact .inr ⟨e1, e2, heap_setCell_same w cb 0 _ _ _ e3, e4.block (hE.block _ e4.lt hoc)⟩
theorem ClM.set1 (h : ClM O w cb A st cl n G kn nx col ro fs) (cl' : Bool) : ClM O (w.setCell ⟨cb, 1, none⟩ (.bool cl')) cb A st cl' n G kn nx col ro fs := by
  have hE : Else (fun k => k = cb) w (w.setCell ⟨cb, 1, none⟩ (.bool cl')) := Un.Else.set (S := fun k => k = cb) w (p := ⟨cb, 1, none⟩) rfl _
  refine ⟨?_, h.gr.stay fun k hk => hE.block k (h.gr.blocks hk) fun e => h.d k hk (.inr (.inl e)), own_else h.kr hE fun k hk => (h.ks k hk).2.1, own_else h.nr hE fun k hk => (h.ns k hk).2.1, h.d, h.ks, h.ns, h.own, fun k hk => Nat.lt_of_lt_of_le (h.sb k hk) hE.size⟩
  rcases h.sets with h | ⟨e1, e2, e3, e4⟩
  · have hne : A.f0 ≠ cb := fun e => Un.row_ne h.row h.blk (by decide) (by rw [e]; rfl)
    have hoc : A.ob ≠ cb := fun e => by
      obtain ⟨_, _, ⟨_, _, hm, _⟩, _⟩ := h.map
      rw [e, h.blk] at hm
      cases hm
    exact .inl ⟨heap_setCell_same w cb 1 _ _ _ h.blk, h.map.block (hE.block _ h.map.lt hoc), h.ncb, h.nob, h.nf0, own_else h.row hE fun k hk => by cases hk; exact hne, h.uf.keep hE fun k hk e => by subst e; exact h.ncb hk⟩
  · have hoc : A.ob ≠ cb := fun e => by
      obtain ⟨_, _, ⟨_, _, hm, _⟩, _⟩ := e4
      rw [e, e3] at hm
      cases hm
    exact .inr ⟨e1, e2, heap_setCell_same w cb 1 _ _ _ e3, e4.block (hE.block _ e4.lt hoc)⟩
theorem count_cl (h : ClM O w cb A st cl n G kn nx col ro fs) (m : Int) (hm : 0 ≤ m ∧ m ≤ 1000000000000000) (hs : 0 ≤ st ∧ st ≤ 1000000000000000) :
    Calls Tryz.prog 73 #[.pointer (some ⟨cb, 0, none⟩), .int .i64 m] w fun e w' => e = .returned (.tuple #[]) ∧ ClM O w' cb A (st + m) cl n G kn nx col ro fs ∧ Else (fun k => k = cb) w w' := by
  obtain ⟨hl, hz, c0, _⟩ := h.cells
  have hz0 := hz 0
  have HH := Lib.hid h
  clear h hz
  go_enter Tryz.func73, Tryz.ntmps73
  go_wp2_with fail
  exact bodyPost_end (results_none rfl _ _ _) rfl ⟨rfl, HH.out.set0 _, Un.Else.set (S := fun k => k = cb) w (p := ⟨cb, 0, none⟩) rfl _⟩
end
end Go.Proofs.YtojgiienohpaiaaGreat
namespace Go.Proofs.YtojgiienohpaiaaGreat
open Go.RowKit
open Un (Else StM rowI UFo own_else dg swp wp_world)
set_option maxRecDepth 100000
section
variable {O T : Nat → Prop} {w w' : World} {cb : Nat} {A : Adr} {st : Int} {cl : Bool} {n : Nat} {G : List Gn} {kn : Kn} {nx col ro col' ro' : Nat → Nat} {fs fs' : Int}
theorem ClM.below (h : ClM O w cb A st cl n G kn nx col ro fs) (hb : Below w.heap.size w w') : ClM O w' cb A st cl n G kn nx col ro fs :=
  h.keep (Else.of_below (S := fun _ => False) hb) fun _ _ => id
theorem ClM.ring (h : ClM O w cb A st cl n G kn nx col ro fs) {nx' : Nat → Nat} (he : Else (fun k => A.N.ownBlock = some k) w w') (hr : w'.ownsRow 0 3 1 A.N n (rowI n nx')) : ClM O w' cb A st cl n G kn nx' col ro fs := by
  have hF : ∀ k, A.N.ownBlock = some k → ¬ A.S k ∧ k ≠ cb ∧ k ≠ A.ob ∧ k ≠ A.f0 := h.ns
  exact ⟨StX.keep h.sets he (fun e => (hF _ e).2.1 rfl) (fun e => (hF _ e).2.2.1 rfl) (fun e => (hF _ e).2.2.2 rfl) (fun k hk e => (hF k e).1 hk), h.gr.stay fun k hk => he.block k (h.gr.blocks hk) fun e => h.d k hk (.inr (.inr (.inr (.inr (.inr e))))), own_else h.kr he fun k hk => (h.ks k hk).2.2.2.2, hr, h.d, h.ks, h.ns, h.own, fun k hk => Nat.lt_of_lt_of_le (h.sb k hk) he.size⟩
theorem mix_both (h : ClM O w cb A st cl n G kn nx col ro fs) (hnG : n ≤ G.length) (a b : Nat) (ha : a < n) (hb : b < n) (hab : a ≠ b) (p q : Gn) (hp : G[a]? = some p) (hq : G[b]? = some q) (p1 : p.1 = 1) (q1 : q.1 = 1) :
    Calls Tryz.prog 93 #[.pointer (some ⟨cb, 0, none⟩), .int .i64 (a : Nat), .int .i64 (b : Nat)] w fun e w' => e = .returned (.int .i64 ((if p.2.1 < q.2.1 then a else b : Nat) : Nat)) ∧ ClM O w' cb A st cl n G kn (swp nx a b) col ro fs ∧ Else (fun k => A.N.ownBlock = some k) w w' := by
  obtain ⟨hl, hz, _, _, c2, _, c7⟩ := h.cells
  obtain ⟨nb, cN, hN, _, _⟩ := Un.own_shape h.nr (by omega)
  have hrow := h.nr
  rw [hN] at c7 hrow
  have ra : w.cell? ⟨nb, a, none⟩ = some (.int .i64 (nx a : Nat)) := (hrow.cellAt a (by omega)).trans (Un.rowI_get ha)
  have rb : w.cell? ⟨nb, b, none⟩ = some (.int .i64 (nx b : Nat)) := (hrow.cellAt b (by omega)).trans (Un.rowI_get hb)
  have hba : b ≠ a := Ne.symm hab
  have za := hrow.frozenAt a
  have zb := hrow.frozenAt b
  have f1 : ((a : Int) == -1) = false := by simp
  have f2 : ((b : Int) == -1) = false := by simp
  have HH := Lib.hid h
  have HN := Lib.hid (And.intro hN hrow)
  clear h hrow hz hN
  go_enter Tryz.func93, Tryz.ntmps93
  go_wp2_with fail
  go_region
  go_upto_region 4 with fail
  refine wp_world (fun V => ClM O V cb A st cl n G kn (swp nx a b) col ro fs ∧ Else (fun k => A.N.ownBlock = some k) w V) ?_ ?_
  · obtain ⟨hN, hrow⟩ := HN.out
    obtain ⟨o1, g1⟩ := hrow.stored a (.int .i64 (nx b : Nat))
    obtain ⟨o2, g2⟩ := o1.stored b (.int .i64 (nx a : Nat))
    rw [Un.rowI_set, Un.rowI_set, ← hN] at o2
    have hE : Else (fun k => A.N.ownBlock = some k) w ((w.setCell ⟨nb, a, none⟩ (.int .i64 (nx b : Nat))).setCell ⟨nb, b, none⟩ (.int .i64 (nx a : Nat))) := (Un.Else.set w (p := ⟨nb, a, none⟩) (by rw [hN]; rfl) _).trans (Un.Else.set _ (p := ⟨nb, b, none⟩) (by rw [hN]; rfl) _)
    exact ⟨(HH.out.ring hE o2).below (Below.refl _ _).drew, hE.drew⟩
  rintro V ⟨hV, hE⟩
  obtain ⟨_, _, _, _, d2, _, _⟩ := hV.cells
  have hx : G[a] = p := (List.getElem?_eq_some_iff.1 hp).2
  have hy : G[b] = q := (List.getElem?_eq_some_iff.1 hq).2
  clear HN hba
  have HA := name_in V 0 A.g A.mb A.V A.L G hV.gr a (by omega)
  have HF := Lib.hid (And.intro hV hE)
  clear hl c2 c7 ra rb za zb hV hE
  go_wp2_with fail
  refine HA.mono ?_
  rintro e w2 ⟨rfl, hb2⟩
  rw [hx, if_pos p1]
  obtain ⟨hV, hE⟩ := HF.out
  have hV2 := hV.below hb2
  obtain ⟨_, _, _, _, d2', _, _⟩ := hV2.cells
  have HB := name_in w2 0 A.g A.mb A.V A.L G hV2.gr b (by omega)
  have HF2 := Lib.hid (And.intro hV2 (hE.trans (Else.of_below hb2)))
  clear hV hE hV2 hb2 HA HF
  go_wp2_with fail
  refine HB.mono ?_
  rintro e w3 ⟨rfl, hb3⟩
  rw [hy, if_pos q1]
  have HF3 := Lib.hid (And.intro (HF2.out.1.below hb3) (HF2.out.2.trans (Else.of_below hb3)))
  clear hb3 HB HF2
  by_cases hlt : p.2.1 < q.2.1
  · have g1 : decide (p.2.1 < q.2.1) = true := decide_eq_true hlt
    go_wp2_with fail
    go_ret
    exact ⟨rfl, HF3.out⟩
  · have g1 : decide (p.2.1 < q.2.1) = false := decide_eq_false hlt
    go_wp2_with fail
    go_ret
    exact ⟨rfl, HF3.out⟩
end
end Go.Proofs.YtojgiienohpaiaaGreat
namespace Go.Proofs.YtojgiienohpaiaaGreat
open Go.RowKit
open Un (Else StM rowI UFo own_else dg swp wp_world)
set_option maxRecDepth 100000
theorem max_run (w : World) (x y : Int) : (Builtin.max_ #[3, 3] 3 #[.int .i64 x, .int .i64 y]).run Tryz.prog w = .ok (.int .i64 (if x < y then y else x)) w := by
  have e : (Builtin.max_ #[3, 3] 3 #[.int .i64 x, .int .i64 y]) = (do pure (← Builtin.max2 (.int .i64 x) (.int .i64 y))) := rfl
  rw [e]
  rfl
section
variable {O T : Nat → Prop} {w w' : World} {cb : Nat} {A : Adr} {st : Int} {cl : Bool} {n : Nat} {G : List Gn} {kn : Kn} {nx col ro col' ro' : Nat → Nat} {fs fs' : Int}
theorem oi_none (a : Nat) : ((oi (some a)) == -1) = false := by
  simp [oi]
theorem mix_none (w : World) (cb : Nat) (a b : Option Nat) (hab : a = none ∨ b = none) :
    Calls Tryz.prog 93 #[.pointer (some ⟨cb, 0, none⟩), .int .i64 (oi a), .int .i64 (oi b)] w fun e w' => e = .returned (.int .i64 (oi (a.or b))) ∧ w' = w := by
  have hm := max_run w (oi a) (oi b)
  have hv : (if oi a < oi b then oi b else oi a) = oi (a.or b) := by
    cases a with
    | none => cases b with
      | none => rfl
      | some b => simp [oi]; omega
    | some a =>
      rcases hab with h | h
      · cases h
      · subst h
        have : ¬ ((a : Int) < -1) := by omega
        simp [oi, this]
  rw [hv] at hm
  cases a with
  | none =>
    have f1 : ((oi none) == -1) = true := rfl
    go_enter Tryz.func93, Tryz.ntmps93
    go_wp2_with fail
    go_ret
    exact ⟨rfl, rfl⟩
  | some a =>
    obtain rfl : b = none := by
      rcases hab with h | h
      · cases h
      · exact h
    have f1 := oi_none a
    have f2 : ((oi none) == -1) = true := rfl
    go_enter Tryz.func93, Tryz.ntmps93
    go_wp2_with fail
    go_ret
    exact ⟨rfl, rfl⟩
end
end Go.Proofs.YtojgiienohpaiaaGreat
namespace Go.Proofs.YtojgiienohpaiaaGreat
open Go.RowKit
open Un (Else StM rowI UFo own_else dg swp wp_world paint)
set_option maxRecDepth 100000
theorem knR_len (n : Nat) (kn : Kn) : (knR n kn).length = n * 2 := by
  induction n with
  | zero => rfl
  | succ n ih =>
    unfold knR at ih ⊢
    rw [List.range_succ, List.flatMap_append, List.length_append, ih]
    simp
    omega
theorem knR_snoc (n : Nat) (kn : Kn) : knR (n + 1) kn = knR n kn ++ [.int .i64 (oi (kn n).1), .int .i64 (oi (kn n).2)] := by
  unfold knR
  rw [List.range_succ, List.flatMap_append]
  simp
theorem knR_get {n : Nat} {kn : Kn} {i : Nat} (h : i < n) : (knR n kn)[i * 2]? = some (.int .i64 (oi (kn i).1)) ∧ (knR n kn)[i * 2 + 1]? = some (.int .i64 (oi (kn i).2)) := by
  induction n with
  | zero => omega
  | succ n ih =>
    rw [knR_snoc]
    have hl := knR_len n kn
    by_cases hi : i < n
    · rw [List.getElem?_append_left (by omega), List.getElem?_append_left (by omega)]
      exact ih hi
    · obtain rfl : i = n := by omega
      rw [List.getElem?_append_right (by omega), List.getElem?_append_right (by omega), hl, show i * 2 - i * 2 = 0 by omega, show i * 2 + 1 - i * 2 = 1 by omega]
      exact ⟨rfl, rfl⟩
def kup (kn : Kn) (r : Nat) (v : Option Nat × Option Nat) : Kn := fun i => if i = r then v else kn i
theorem knR_congr {n : Nat} {kn kn' : Kn} (h : ∀ i, i < n → kn i = kn' i) : knR n kn = knR n kn' := by
  unfold knR
  have : ∀ (l : List Nat), (∀ i ∈ l, i < n) → (l.flatMap fun i => ([.int .i64 (oi (kn i).1), .int .i64 (oi (kn i).2)] : List Value)) = l.flatMap fun i => [.int .i64 (oi (kn' i).1), .int .i64 (oi (kn' i).2)] := by
    intro l
    induction l with
    | nil => intro _; rfl
    | cons x l ih =>
      intro hl
      simp only [List.flatMap_cons]
      rw [h x (hl x List.mem_cons_self), ih fun i hi => hl i (List.mem_cons_of_mem _ hi)]
  exact this _ fun i hi => List.mem_range.1 hi
theorem knR_set {n : Nat} {kn : Kn} {r : Nat} (h : r < n) (v : Option Nat × Option Nat) : ((knR n kn).set (r * 2) (.int .i64 (oi v.1))).set (r * 2 + 1) (.int .i64 (oi v.2)) = knR n (kup kn r v) := by
  apply List.ext_getElem?
  intro j
  have hl := knR_len n kn
  have hl' := knR_len n (kup kn r v)
  by_cases hj : j < n * 2
  · obtain ⟨i, hi⟩ : ∃ i, j = i * 2 ∨ j = i * 2 + 1 := ⟨j / 2, by omega⟩
    have hin : i < n := by omega
    obtain ⟨g1, g2⟩ := knR_get (kn := kn) hin
    obtain ⟨k1, k2⟩ := knR_get (kn := kup kn r v) hin
    by_cases e : i = r
    · subst e
      rcases hi with rfl | rfl
      · rw [List.getElem?_set_ne (by omega), List.getElem?_set_self (by omega), k1]
        simp [kup]
      · rw [List.getElem?_set_self (by rw [List.length_set]; omega), k2]
        simp [kup]
    · rcases hi with rfl | rfl
      · rw [List.getElem?_set_ne (by omega), List.getElem?_set_ne (by omega), k1, g1]
        simp [kup, e]
      · rw [List.getElem?_set_ne (by omega), List.getElem?_set_ne (by omega), k2, g2]
        simp [kup, e]
  · rw [List.getElem?_eq_none (by simp; omega), List.getElem?_eq_none (by omega)]
def nmG (G : List Gn) (x : Nat) : Int := ((G[x]?).map fun p => p.2.1).getD 0
def ml (G : List Gn) : Option Nat → Option Nat → Option Nat
  | some x, some y => some (if nmG G x < nmG G y then x else y)
  | a, b => a.or b
def mr (nx : Nat → Nat) : Option Nat → Option Nat → Nat → Nat
  | some x, some y => swp nx x y
  | _, _ => nx
def Vn (n : Nat) (G : List Gn) (a : Option Nat) : Prop := ∀ x, a = some x → x < n ∧ ∃ p, G[x]? = some p ∧ p.1 = 1
section
variable {O T : Nat → Prop} {w w' : World} {cb : Nat} {A : Adr} {st : Int} {cl : Bool} {n : Nat} {G : List Gn} {kn : Kn} {nx col ro col' ro' : Nat → Nat} {fs fs' : Int}
theorem mix_cl (h : ClM O w cb A st cl n G kn nx col ro fs) (hnG : n ≤ G.length) (a b : Option Nat) (ha : Vn n G a) (hb : Vn n G b) (hd : ∀ x y, a = some x → b = some y → x ≠ y) :
    Calls Tryz.prog 93 #[.pointer (some ⟨cb, 0, none⟩), .int .i64 (oi a), .int .i64 (oi b)] w fun e w' => e = .returned (.int .i64 (oi (ml G a b))) ∧ ClM O w' cb A st cl n G kn (mr nx a b) col ro fs ∧ Else (fun k => A.N.ownBlock = some k) w w' := by
  cases a with
  | none =>
    refine (mix_none w cb none b (.inl rfl)).mono ?_
    rintro e w' ⟨rfl, rfl⟩
    refine ⟨by cases b <;> rfl, ?_, Else.refl _ _⟩
    cases b <;> exact h
  | some x => cases b with
    | none =>
      refine (mix_none w cb (some x) none (.inr rfl)).mono ?_
      rintro e w' ⟨rfl, rfl⟩
      exact ⟨rfl, h, Else.refl _ _⟩
    | some y =>
      obtain ⟨hx, p, hp, p1⟩ := ha x rfl
      obtain ⟨hy, q, hq, q1⟩ := hb y rfl
      refine (mix_both h hnG x y hx hy (hd x y rfl rfl) p q hp hq p1 q1).mono ?_
      rintro e w' ⟨rfl, h1, h2⟩
      refine ⟨?_, h1, h2⟩
      have e1 : nmG G x = p.2.1 := by simp [nmG, hp]
      have e2 : nmG G y = q.2.1 := by simp [nmG, hq]
      simp only [ml, e1, e2, oi]
theorem ClM.know (h : ClM O w cb A st cl n G kn nx col ro fs) {kn' : Kn} (he : Else (fun k => A.K.ownBlock = some k) w w') (hr : w'.ownsRow 0 124 2 A.K n (knR n kn')) : ClM O w' cb A st cl n G kn' nx col ro fs := by
  have hF := h.ks
  exact ⟨StX.keep h.sets he (fun e => (hF _ e).2.1 rfl) (fun e => (hF _ e).2.2.1 rfl) (fun e => (hF _ e).2.2.2.1 rfl) (fun k hk e => (hF k e).1 hk), h.gr.stay fun k hk => he.block k (h.gr.blocks hk) fun e => h.d k hk (.inr (.inr (.inr (.inr (.inl e))))), hr, own_else h.nr he fun k hk e => (hF k e).2.2.2.2 hk, h.d, h.ks, h.ns, h.own, fun k hk => Nat.lt_of_lt_of_le (h.sb k hk) he.size⟩
end
end Go.Proofs.YtojgiienohpaiaaGreat
