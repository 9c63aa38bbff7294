/- Texts of one proof, one behind the other. -/
import Derived.Test.YtfoangiphbmipaaMgTermOrder13
/- term.Nth. -/
namespace Go.Proofs.Ytfoangiphbmipaa
open Go.RowKit Go.Shelf
attribute [local go_sem] Oper.semAt_some

/-- A term's copy: what its type and its parts hang on lies in blocks from B on, below M. -/
def FreshM (B M : Nat) (w : World) (x : Nd) (ps : Te) (tu u : Sl) : Prop :=
  M ≤ w.heap.size ∧ ∀ W : World, M ≤ W.heap.size → (∀ (b : Nat) (o : Obj), B ≤ b → b < M → w.heap[b]? = some o → o.isCells = true → W.heap[b]? = some o) → ∃ ty g, Img idn x.ty ty ∧ TImg ps g ∧ TyV W.heap.size W ty (slv tu) ∧ TeV W.heap.size W g (slv u)
theorem FreshE.at {B : Nat} {w : World} {x : Nd} {ps : Te} {tu u : Sl} (h : FreshE B w x ps tu u) : FreshM B w.heap.size w x ps tu u := ⟨Nat.le_refl _, fun W hW hk => h W hW fun b o h1 h2 h3 => hk b o h1 (Array.getElem?_eq_some_iff.1 h2).1 h2 h3⟩
theorem FreshM.to {B M : Nat} {w w' : World} {x : Nd} {ps : Te} {tu u : Sl} (h : FreshM B M w x ps tu u) (hs : M ≤ w'.heap.size) (hk : ∀ (b : Nat) (o : Obj), B ≤ b → b < M → w.heap[b]? = some o → o.isCells = true → w'.heap[b]? = some o) : FreshM B M w' x ps tu u :=
  ⟨hs, fun W hW hkW => h.2 W hW fun b o h1 h2 h3 h4 => hkW b o h1 h2 (hk b o h1 h2 h3 h4) h4⟩
theorem FreshM.now {B M : Nat} {w : World} {x : Nd} {ps : Te} {tu u : Sl} (h : FreshM B M w x ps tu u) : ∃ ty g, Img idn x.ty ty ∧ TImg ps g ∧ TyV w.heap.size w ty (slv tu) ∧ TeV w.heap.size w g (slv u) := h.2 w h.1 fun _ _ _ _ h _ => h
theorem FreshM.below {B M : Nat} {w w' : World} {x : Nd} {ps : Te} {tu u : Sl} (h : FreshM B M w x ps tu u) (hb : Below w.heap.size w w') : FreshM B M w' x ps tu u :=
  h.to (Nat.le_trans h.1 hb.size) fun b _ _ h2 h3 _ => (hb.block b (Nat.lt_of_lt_of_le h2 h.1)).trans h3
theorem AbS.blk {β : Type} {b : Nat} {f : β → Obj} : AbS (fun O s W => W.heap[b]? = some (f s) ∧ ¬ O b) := fun _ _ _ _ _ hs hc hO =>
  ⟨(hc.block b (Array.getElem?_eq_some_iff.1 hs.1).1 hs.2).trans hs.1, fun h => hs.2 (hO b (Array.getElem?_eq_some_iff.1 hs.1).1 h)⟩
theorem ownS_blk {β : Type} {O : Nat → Prop} {B b : Nat} (f : β → Obj) (hf : ∀ s, (f s).isCells = true) : OwnFrom B (fun s W => W.heap[b]? = some (f s) ∧ ¬ O b) := fun s W W' row hs hg hr => by
  refine ⟨(hg.block b (Array.getElem?_eq_some_iff.1 hs.1).1 fun e => ?_).trans hs.1, hs.2⟩
  obtain ⟨o, ho, hoc⟩ := (hr b e.symm).2
  rw [hs.1] at ho
  cases ho
  rw [hf s] at hoc
  cases hoc
theorem AbS.fresh {β : Type} {B M : Nat} {x : Nd} {ps : Te} {tu u : Sl} : AbS (fun O (_ : β) W => FreshM B M W x ps tu u ∧ ∀ b, B ≤ b → b < M → ¬ O b) := fun _ _ _ _ _ hs hc hO =>
  ⟨hs.1.to (Nat.le_trans hs.1.1 hc.size) fun b _ h1 h2 h3 _ => (hc.block b (Nat.lt_of_lt_of_le h2 hs.1.1) (hs.2 b h1 h2)).trans h3, fun b h1 h2 h => hs.2 b h1 h2 (hO b (Nat.lt_of_lt_of_le h2 hs.1.1) h)⟩
theorem FreshM.own {B M : Nat} {w w' : World} {x : Nd} {ps : Te} {tu u : Sl} (h : FreshM B M w x ps tu u) {row : Option Nat} (hg : w.grownBy w' row) (hr : ∀ r, row = some r → ∃ o : Obj, w.heap[r]? = some o ∧ o.isCells = false) : FreshM B M w' x ps tu u :=
  h.to (Nat.le_trans h.1 hg.size) fun b o _ h2 h3 h4 => (hg.block b (Nat.lt_of_lt_of_le h2 h.1) fun e => by
    obtain ⟨o', ho, hc⟩ := hr b e.symm
    rw [h3] at ho
    cases ho
    rw [h4] at hc
    cases hc).trans h3
theorem ert0_cells {w : World} {g : Nat} {T : TypeId} (h : w.heap[g]? = some (Obj.cells ert0 T)) :
    w.cell? ⟨g, 0, none⟩ = some (.int .i64 0) ∧
    w.cell? ⟨g, 1, none⟩ = some (.string ⟨#[]⟩) ∧
    w.cell? ⟨g, 2, none⟩ = some (.int .i64 0) ∧
    w.cell? ⟨g, 3, none⟩ = some (.int .i64 0) ∧
    w.cell? ⟨g, 4, none⟩ = some (.int .i64 0) ∧
    w.cell? ⟨g, 5, none⟩ = some (.slice none 0 0) ∧
    w.cell? ⟨g, 6, none⟩ = some (.slice none 0 0) ∧
    w.cell? ⟨g, 7, none⟩ = some (.int .i64 0) ∧
    w.cell? ⟨g, 8, none⟩ = some (.int .i64 0) ∧
    w.frozen? ⟨g, 0, none⟩ = false ∧ w.frozen? ⟨g, 1, none⟩ = false ∧ w.frozen? ⟨g, 2, none⟩ = false ∧ w.frozen? ⟨g, 3, none⟩ = false ∧ w.frozen? ⟨g, 4, none⟩ = false ∧ w.frozen? ⟨g, 5, none⟩ = false ∧ w.frozen? ⟨g, 6, none⟩ = false ∧ w.frozen? ⟨g, 7, none⟩ = false ∧ w.frozen? ⟨g, 8, none⟩ = false :=
  ⟨cell_of_row w g 0 _ _ (0, 0) h, cell_of_row w g 1 _ _ (0, 0) h, cell_of_row w g 2 _ _ (0, 0) h, cell_of_row w g 3 _ _ (0, 0) h, cell_of_row w g 4 _ _ (0, 0) h, cell_of_row w g 5 _ _ (0, 0) h, cell_of_row w g 6 _ _ (0, 0) h, cell_of_row w g 7 _ _ (0, 0) h, cell_of_row w g 8 _ _ (0, 0) h, frozen_cells h 0, frozen_cells h 1, frozen_cells h 2, frozen_cells h 3, frozen_cells h 4, frozen_cells h 5, frozen_cells h 6, frozen_cells h 7, frozen_cells h 8⟩
/-- What term.Nth gives. -/
def NthIs (l : List Tm) (i : Int) (w0 : World) (e : Ending) (w' : World) : Prop :=
  Below w0.heap.size w0 w' ∧ ((∃ (t : Tm) (tu u : Sl) (B M : Nat), 0 ≤ i ∧ l[i.toNat]? = some t ∧ e = .returned (.tuple #[teVal { t.1 with tu := tu, u := u }, .bool true]) ∧ w0.heap.size ≤ B ∧ FreshM B M w' t.1 t.2 tu u) ∨
    ((i < 0 ∨ l.length ≤ i.toNat) ∧ e = .returned (.tuple #[teVal nd0, .bool false])))
theorem results_box2 {P : Program} {fn : Func} {p q : Tmp} {ty ty2 : TypeId} (h : fn.results = #[.cell p ty, .cell q ty2]) (tmps : Array Value) (w : World) (g g2 : Nat) (v v2 : Value)
    (hp : tmps.getD p undef = .pointer (some ⟨g, 0, none⟩)) (hq : tmps.getD q undef = .pointer (some ⟨g2, 0, none⟩)) (hl : (loadVar ty ⟨g, 0, none⟩).run P w = .ok v w) (hl2 : (loadVar ty2 ⟨g2, 0, none⟩).run P w = .ok v2 w) : (results fn tmps).run P w = .ok (.tuple #[v, v2]) w := by
  have hp' : tmps[p]?.getD undef = .pointer (some ⟨g, 0, none⟩) := by simpa using hp
  have hq' : tmps[q]?.getD undef = .pointer (some ⟨g2, 0, none⟩) := by simpa using hq
  simp [results, h, hp', hq', asAddr, hl, hl2, Sem.run_bind, Result.andThen]
set_option maxRecDepth 100000 in
set_option maxHeartbeats 8000000 in
theorem nth_any (w : World) (B : Nat) (x : Nd) (ps : Te) (i : Int) (hB : B ≤ w.heap.size) (hL : TmL B w (x, ps)) (hs : ps.size < 1000000) (hP : (one_ x ps).tyb) :
    Calls Try.prog 9 #[teVal x, .int .i64 i] w (NthIs (one_ x ps).pre i w) := by
  have hCP : ∀ (W : World) (t : Tm), Below w.heap.size w W → t ∈ (one_ x ps).pre → Calls Try.prog 18 #[teVal t.1] W fun e w' => ∃ tu u : Sl, e = .returned (teVal { t.1 with tu := tu, u := u }) ∧ Below W.heap.size W w' ∧ FreshE W.heap.size w' t.1 t.2 tu u := fun W t hb ht => by
    have hT : TmL B w t := TeL.pre (f := one_ x ps) ⟨hL, trivial⟩ t ht
    have hp := Te.tyb_pre hP t ht
    have hz := Te.size_pre (one_ x ps) t ht
    exact ecopy_any W t.1 t.2 (hT.up (hb.mono hB) (Nat.le_trans hB hb.size)) (by simp only [Te.size] at hz; omega) hp.1 hp.2
  have HCP := Lib.hid hCP
  clear hCP hP
  obtain ⟨w0, hw0⟩ : ∃ w0, w.alloc (Obj.cells (ndC x).toArray 29) = w0 := ⟨_, rfl⟩
  have hs0 : w0.heap.size = w.heap.size + 1 := by rw [← hw0]; simp
  have hb0 : Below w.heap.size w w0 := by rw [← hw0]; exact (Below.refl _ _).alloc (Nat.le_refl _) _
  have hk0 : w0.heap[w.heap.size]? = some (Obj.cells (ndC x).toArray 29) := by rw [← hw0]; exact heap_alloc_new _ _
  obtain ⟨w1, hw1⟩ : ∃ w1, w0.alloc (Obj.cells #[.int .i64 i] 3) = w1 := ⟨_, rfl⟩
  have hs1 : w1.heap.size = w.heap.size + 1 + 1 := by rw [← hw1]; simp; omega
  have hb1 : Below w.heap.size w w1 := by rw [← hw1]; exact hb0.alloc (by omega) _
  have hk1_0 : w1.heap[w.heap.size]? = some (Obj.cells (ndC x).toArray 29) := by rw [← hw1]; exact (Below.heap_alloc _ _ _ (by omega)).trans hk0
  have hk1_1 : w1.heap[w.heap.size + 1]? = some (Obj.cells #[.int .i64 i] 3) := by rw [← hw1, ← hs0]; exact heap_alloc_new _ _
  obtain ⟨w2, hw2⟩ : ∃ w2, w1.alloc (Obj.cells #[.int .i64 0, .string ⟨#[]⟩, .int .i64 0, .int .i64 0, .int .i64 0, .slice none 0 0, .slice none 0 0, .int .i64 0, .int .i64 0] 29) = w2 := ⟨_, rfl⟩
  have hs2 : w2.heap.size = w.heap.size + 1 + 1 + 1 := by rw [← hw2]; simp; omega
  have hb2 : Below w.heap.size w w2 := by rw [← hw2]; exact hb1.alloc (by omega) _
  have hk2_0 : w2.heap[w.heap.size]? = some (Obj.cells (ndC x).toArray 29) := by rw [← hw2]; exact (Below.heap_alloc _ _ _ (by omega)).trans hk1_0
  have hk2_1 : w2.heap[w.heap.size + 1]? = some (Obj.cells #[.int .i64 i] 3) := by rw [← hw2]; exact (Below.heap_alloc _ _ _ (by omega)).trans hk1_1
  have hk2_2 : w2.heap[w.heap.size + 1 + 1]? = some (Obj.cells #[.int .i64 0, .string ⟨#[]⟩, .int .i64 0, .int .i64 0, .int .i64 0, .slice none 0 0, .slice none 0 0, .int .i64 0, .int .i64 0] 29) := by rw [← hw2, ← hs1]; exact heap_alloc_new _ _
  obtain ⟨w3, hw3⟩ : ∃ w3, w2.alloc (Obj.cells #[.bool false] 4) = w3 := ⟨_, rfl⟩
  have hs3 : w3.heap.size = w.heap.size + 1 + 1 + 1 + 1 := by rw [← hw3]; simp; omega
  have hb3 : Below w.heap.size w w3 := by rw [← hw3]; exact hb2.alloc (by omega) _
  have hk3_0 : w3.heap[w.heap.size]? = some (Obj.cells (ndC x).toArray 29) := by rw [← hw3]; exact (Below.heap_alloc _ _ _ (by omega)).trans hk2_0
  have hk3_1 : w3.heap[w.heap.size + 1]? = some (Obj.cells #[.int .i64 i] 3) := by rw [← hw3]; exact (Below.heap_alloc _ _ _ (by omega)).trans hk2_1
  have hk3_2 : w3.heap[w.heap.size + 1 + 1]? = some (Obj.cells #[.int .i64 0, .string ⟨#[]⟩, .int .i64 0, .int .i64 0, .int .i64 0, .slice none 0 0, .slice none 0 0, .int .i64 0, .int .i64 0] 29) := by rw [← hw3]; exact (Below.heap_alloc _ _ _ (by omega)).trans hk2_2
  have hk3_3 : w3.heap[w.heap.size + 1 + 1 + 1]? = some (Obj.cells #[.bool false] 4) := by rw [← hw3, ← hs2]; exact heap_alloc_new _ _
  obtain ⟨w4, hw4⟩ : ∃ w4, w3.alloc (Obj.cells #[.int .i64 0] 3) = w4 := ⟨_, rfl⟩
  have hs4 : w4.heap.size = w.heap.size + 1 + 1 + 1 + 1 + 1 := by rw [← hw4]; simp; omega
  have hb4 : Below w.heap.size w w4 := by rw [← hw4]; exact hb3.alloc (by omega) _
  have hk4_0 : w4.heap[w.heap.size]? = some (Obj.cells (ndC x).toArray 29) := by rw [← hw4]; exact (Below.heap_alloc _ _ _ (by omega)).trans hk3_0
  have hk4_1 : w4.heap[w.heap.size + 1]? = some (Obj.cells #[.int .i64 i] 3) := by rw [← hw4]; exact (Below.heap_alloc _ _ _ (by omega)).trans hk3_1
  have hk4_2 : w4.heap[w.heap.size + 1 + 1]? = some (Obj.cells #[.int .i64 0, .string ⟨#[]⟩, .int .i64 0, .int .i64 0, .int .i64 0, .slice none 0 0, .slice none 0 0, .int .i64 0, .int .i64 0] 29) := by rw [← hw4]; exact (Below.heap_alloc _ _ _ (by omega)).trans hk3_2
  have hk4_3 : w4.heap[w.heap.size + 1 + 1 + 1]? = some (Obj.cells #[.bool false] 4) := by rw [← hw4]; exact (Below.heap_alloc _ _ _ (by omega)).trans hk3_3
  have hk4_4 : w4.heap[w.heap.size + 1 + 1 + 1 + 1]? = some (Obj.cells #[.int .i64 0] 3) := by rw [← hw4, ← hs3]; exact heap_alloc_new _ _
  obtain ⟨w5, hw5⟩ : ∃ w5, w4.alloc (Obj.cells (ndC x).toArray 29) = w5 := ⟨_, rfl⟩
  have hs5 : w5.heap.size = w.heap.size + 1 + 1 + 1 + 1 + 1 + 1 := by rw [← hw5]; simp; omega
  have hb5 : Below w.heap.size w w5 := by rw [← hw5]; exact hb4.alloc (by omega) _
  have hk5_0 : w5.heap[w.heap.size]? = some (Obj.cells (ndC x).toArray 29) := by rw [← hw5]; exact (Below.heap_alloc _ _ _ (by omega)).trans hk4_0
  have hk5_1 : w5.heap[w.heap.size + 1]? = some (Obj.cells #[.int .i64 i] 3) := by rw [← hw5]; exact (Below.heap_alloc _ _ _ (by omega)).trans hk4_1
  have hk5_2 : w5.heap[w.heap.size + 1 + 1]? = some (Obj.cells #[.int .i64 0, .string ⟨#[]⟩, .int .i64 0, .int .i64 0, .int .i64 0, .slice none 0 0, .slice none 0 0, .int .i64 0, .int .i64 0] 29) := by rw [← hw5]; exact (Below.heap_alloc _ _ _ (by omega)).trans hk4_2
  have hk5_3 : w5.heap[w.heap.size + 1 + 1 + 1]? = some (Obj.cells #[.bool false] 4) := by rw [← hw5]; exact (Below.heap_alloc _ _ _ (by omega)).trans hk4_3
  have hk5_4 : w5.heap[w.heap.size + 1 + 1 + 1 + 1]? = some (Obj.cells #[.int .i64 0] 3) := by rw [← hw5]; exact (Below.heap_alloc _ _ _ (by omega)).trans hk4_4
  have hk5_5 : w5.heap[w.heap.size + 1 + 1 + 1 + 1 + 1]? = some (Obj.cells (ndC x).toArray 29) := by rw [← hw5, ← hs4]; exact heap_alloc_new _ _
  have HSEQ := Lib.hid (order_seq 3 (by omega) (w.heap.size + 1 + 1 + 1 + 1 + 1) B x ps hs w5 (by omega) hk5_5 (hL.below (hb5.mono hB)))
  have HK0 := Lib.hid hk5_0
  have HK1 := Lib.hid hk5_1
  have HK2 := Lib.hid hk5_2
  have HK3 := Lib.hid hk5_3
  have HK4 := Lib.hid hk5_4
  have HBL := Lib.hid (And.intro hb5 hs5)
  have HL := Lib.hid hL
  obtain ⟨x0, x1, x2, x3, x4, ⟨xu1, xu2, xu3⟩, x6, ⟨xv1, xv2, xv3⟩, x8, x9⟩ := x
  obtain ⟨X, hX⟩ : ∃ X : Nd, (⟨x0, x1, x2, x3, x4, (xu1, xu2, xu3), x6, (xv1, xv2, xv3), x8, x9⟩ : Nd) = X := ⟨_, rfl⟩
  have hm := order_make ⟨x0, x1, x2, x3, x4, (xu1, xu2, xu3), x6, (xv1, xv2, xv3), x8, x9⟩ w4
  rw [← hw4, ← hw3, ← hw2, ← hw1, ← hw0] at hm
  have HM := Lib.hid hm
  have HW := Lib.hid (And.intro hw0 (And.intro hw1 (And.intro hw2 (And.intro hw3 (And.intro hw4 (hw5))))))
  dsimp only [ndC, teVal, slv] at HW HM ⊢
  rw [hX] at HSEQ HL HCP ⊢
  have HX := Lib.hid hX
  clear hm hX hL hw0 hs0 hb0 hw1 hs1 hb1 hw2 hs2 hb2 hw3 hs3 hb3 hw4 hs4 hb4 hw5 hs5 hb5 hk0 hk1_0 hk1_1 hk2_0 hk2_1 hk2_2 hk3_0 hk3_1 hk3_2 hk3_3 hk4_0 hk4_1 hk4_2 hk4_3 hk4_4 hk5_0 hk5_1 hk5_2 hk5_3 hk5_4 hk5_5
  refine (callsIn_wide (n := 4)).1 ?_
  refine callsIn_of_wp_marks Try.func9 rfl trivial ?_ rfl
  simp only [Try.ntmps9, List.size_toArray, List.length_cons, List.length_nil, Nat.reduceAdd, Nat.reduceSub, Array.replicate_succ, Array.replicate_zero, List.push_toArray, List.append_toArray, List.nil_append, List.cons_append]
  gi_wp2_with (refine ⟨trivial, ?_⟩; gi_at_call 20; refine (callsIn_wide.2 HM.out).mono ?_; rintro e w' ⟨rfl, rfl⟩)
  rw [HW.out.1, HW.out.2.1, HW.out.2.2.1, HW.out.2.2.2.1, HW.out.2.2.2.2.1, HW.out.2.2.2.2.2]
  obtain ⟨hb2, hs2⟩ := HBL.out
  refine wpIn_rangeS (by omega) (gf := 26) (lb := #[.pointer (some ⟨w.heap.size + 1 + 1 + 1 + 1 + 1, 0, none⟩)]) rfl (enters_of Try.func26 (by kernel_rfl) rfl) HSEQ.out (Below.refl _ _) (by omega) (fun _ => rfl)
    (fun O pre W => (∀ k : Nat, k < pre.length → (k : Int) ≠ i) ∧ ((Boxed W (w.heap.size + 1) 3 (.int .i64 i) ∧ ¬ O (w.heap.size + 1)) ∧ ((W.heap[w.heap.size + 1 + 1]? = some (Obj.cells ert0 29) ∧ ¬ O (w.heap.size + 1 + 1)) ∧ ((Boxed W (w.heap.size + 1 + 1 + 1) 4 (.bool false) ∧ ¬ O (w.heap.size + 1 + 1 + 1)) ∧ ((Boxed W (w.heap.size + 1 + 1 + 1 + 1) 3 (.int .i64 pre.length) ∧ ¬ O (w.heap.size + 1 + 1 + 1 + 1)) ∧ (Below w.heap.size w W ∧ ∀ k, O k → w.heap.size ≤ k))))))
    (fun c O pre W => c = .ret ∧ ∃ (t : Tm) (tu u : Sl) (B1 M : Nat), (pre.length : Int) = i + 1 ∧ pre[i.toNat]? = some t ∧ w.heap.size ≤ B1 ∧ ((W.heap[w.heap.size + 1 + 1]? = some (Obj.cells (ndC { t.1 with tu := tu, u := u }).toArray 29) ∧ ¬ O (w.heap.size + 1 + 1)) ∧ ((Boxed W (w.heap.size + 1 + 1 + 1) 4 (.bool true) ∧ ¬ O (w.heap.size + 1 + 1 + 1)) ∧ ((FreshM B1 M W t.1 t.2 tu u ∧ ∀ b, B1 ≤ b → b < M → ¬ O b) ∧ (Below w.heap.size w W ∧ ∀ k, O k → w.heap.size ≤ k)))))
    (fun O => OwnFrom.and (ownFrom_pure _ _) (OwnFrom.and (ownS_box fun _ => .int .i64 i) (OwnFrom.and (ownS_blk (fun _ => Obj.cells ert0 29) fun _ => rfl) (OwnFrom.and (ownS_box fun _ => .bool false) (OwnFrom.and (ownS_box fun pre : List Tm => .int .i64 pre.length) (ownS_below (by omega) (Nat.le_refl _)))))))
    ?ownx
    (AbS.and AbS.pure (AbS.and (AbS.box (f := fun _ => .int .i64 i)) (AbS.and (AbS.blk (f := fun _ => Obj.cells ert0 29)) (AbS.and (AbS.box (f := fun _ => .bool false)) (AbS.and (AbS.box (f := fun pre : List Tm => .int .i64 pre.length)) (AbS.below (Nat.le_refl _)))))))
    ?abx
    ⟨fun k hk => by simp at hk, ⟨HK1.out, id⟩, ⟨HK2.out, id⟩, ⟨HK3.out, id⟩, ⟨HK4.out, id⟩, hb2, fun _ h => h.elim⟩
    (fun t a' W => ∃ Bx, W.heap[Bx]? = some (Obj.cells (ndC t.1).toArray 29) ∧ a' = { tmps := #[.agg #[.int .i64 x0, .string x1, .int .i64 x2, .int .i64 x3, .int .i64 x4, .slice xu1 xu2 xu3, .slice xv1 xv2 xv3, .int .i64 x8, .int .i64 x9], .int .i64 i, .pointer (some ⟨w.heap.size, 0, none⟩), .pointer (some ⟨w.heap.size + 1, 0, none⟩), .pointer (some ⟨w.heap.size + 1 + 1, 0, none⟩), .pointer (some ⟨w.heap.size + 1 + 1 + 1, 0, none⟩), .pointer (some ⟨w.heap.size + 1 + 1 + 1 + 1, 0, none⟩), .pointer (some ⟨Bx, 0, none⟩), .agg #[.int .i64 x0, .string x1, .int .i64 x2, .int .i64 x3, .int .i64 x4, .slice xu1 xu2 xu3, .slice xv1 xv2 xv3, .int .i64 x8, .int .i64 x9], .func (.func 26) #[] #[.pointer (some ⟨w.heap.size + 1 + 1 + 1 + 1 + 1, 0, none⟩)], teVal t.1, undef, undef, undef, undef, undef, undef, undef, undef], defers := [] })
    (fun t a' s W W' row hs hg hr => by
      obtain ⟨Bx, hc, ha⟩ := hs
      refine ⟨Bx, (hg.block Bx (Array.getElem?_eq_some_iff.1 hc).1 fun e => ?_).trans hc, ha⟩
      obtain ⟨o, ho, hoc⟩ := (hr Bx e.symm).2
      rw [hc] at ho
      cases ho
      cases hoc) ?assign ?body ?done ?stop
  case ownx =>
    rintro c O pre W W' row ⟨hc, t, tu, u, B1, M, h1, h2, h3, h4, h5, ⟨h6, h6'⟩, h7⟩ hg hr
    refine ⟨hc, t, tu, u, B1, M, h1, h2, h3, ownS_blk (β := Unit) (B := w5.heap.size) (fun _ => Obj.cells (ndC { t.1 with tu := tu, u := u }).toArray 29) (fun _ => rfl) () W W' row h4 hg hr, ownS_box (β := Unit) (B := w5.heap.size) (fun _ => .bool true) () W W' row h5 hg hr, ⟨h6.own hg fun r e => (hr r e).2, h6'⟩, ownS_below (β := Unit) (B := w5.heap.size) (by omega) (Nat.le_refl _) () W W' row h7 hg hr⟩
  case abx =>
    rintro c O O' pre W W' ⟨hc, t, tu, u, B1, M, h1, h2, h3, h4, h5, h6, h7⟩ hst hO
    exact ⟨hc, t, tu, u, B1, M, h1, h2, h3, AbS.blk (β := Unit) (f := fun _ => Obj.cells (ndC { t.1 with tu := tu, u := u }).toArray 29) O O' () W W' h4 hst hO, AbS.box (β := Unit) (f := fun _ => .bool true) O O' () W W' h5 hst hO, AbS.fresh (β := Unit) O O' () W W' h6 hst hO, AbS.below (β := Unit) (Nat.le_refl _) O O' () W W' h7 hst hO⟩
  case assign =>
    rintro l O pre t W K hi hsz hO hK
    obtain ⟨⟨z1, z2, z3, z4, z5, ⟨zu1, zu2, zu3⟩, z7, ⟨zv1, zv2, zv3⟩, z9, z10⟩, zp⟩ := t
    dsimp only [teVal, slv] at hK ⊢
    have HI := Lib.hid hi
    clear hi
    gi_wp2
    obtain ⟨hi1, ⟨hi2, hi3⟩, ⟨hi4, hi5⟩, ⟨hi6, hi7⟩, ⟨hi8, hi9⟩, hi10, hi11⟩ := HI.out
    exact hK _ _ ((KeepsOthers.alloc _ _).from _) (Kq.of_below ((Below.refl _ _).alloc (Nat.le_refl _) _) (by omega) fun k hk => (hO k hk).2) ⟨hi1, ⟨hi2.alloc _, hi3⟩, ⟨(Below.heap_alloc _ _ _ (Array.getElem?_eq_some_iff.1 hi4).1).trans hi4, hi5⟩, ⟨hi6.alloc _, hi7⟩, ⟨hi8.alloc _, hi9⟩, hi10.alloc (by omega) _, hi11⟩ ⟨W.heap.size, heap_alloc_new W _, rfl⟩
  case body =>
    rintro l O pre t a' W hl ⟨hi1, ⟨hi2, hi3⟩, ⟨hi4, hi5⟩, ⟨hi6, hi7⟩, ⟨hi8, hi9⟩, hi10, hi11⟩ hsz hO ⟨Bx, hc, rfl⟩ ⟨s, hgs⟩
    have htm : t ∈ (one_ X ps).pre := by rw [← hgs]; simp
    have hpl : pre.length ≤ 1000001 := by
      have := congrArg List.length hgs
      rw [Te.pre_len, List.length_append] at this
      simp only [Te.size] at this
      omega
    have hcall := HCP.out W t hi10 htm
    obtain ⟨b, hb⟩ : ∃ b, ((pre.length : Int) == i) = b := ⟨_, rfl⟩
    obtain ⟨n, hn⟩ : ∃ n, pre.length = n := ⟨_, rfl⟩
    rw [hn] at hb hpl hi8
    have hsw : w.heap.size + 1 + 1 + 1 + 1 + 1 + 1 ≤ W.heap.size := by omega
    obtain ⟨c0, c1, c2, c3, c4, c5, c6, c7, c8⟩ := NdAt.of_block hc
    have e1 := hi2.cell
    have e4 := hi8.cell
    have f4 := hi8.frozen
    have HT := Lib.hid (show pre ++ [t] = pre ++ [t] ∧ (pre ++ [t])[n]? = some t from ⟨rfl, by rw [← hn]; simp⟩)
    have HI := Lib.hid (And.intro hi1 (And.intro (And.intro hi2 hi3) (And.intro (And.intro hi4 hi5) (And.intro (And.intro hi6 hi7) (And.intro (And.intro hi8 hi9) (And.intro hi10 hi11))))))
    have HO := Lib.hid hO
    have HN := Lib.hid hn
    obtain ⟨⟨z1, z2, z3, z4, z5, ⟨zu1, zu2, zu3⟩, z7, ⟨zv1, zv2, zv3⟩, z9, z10⟩, zp⟩ := t
    dsimp only [teVal, slv, ndC] at c0 c1 c2 c3 c4 c5 c6 c7 c8 hcall hc ⊢
    simp only [Nat.zero_add] at c0 c1 c2 c3 c4 c5 c6 c7 c8
    have FA := Lib.hid hcall
    clear hcall hgs htm hi1 hi2 hi3 hi4 hi5 hi6 hi7 hi8 hi9 hi10 hi11 hc hs2 hb2 hO hn
    cases b
    · have hne : (n : Int) ≠ i := by simpa using hb
      have HNE := Lib.hid hne
      clear hne
      gi_wp2
      obtain ⟨hi1, ⟨hi2, hi3⟩, ⟨hi4, hi5⟩, ⟨hi6, hi7⟩, ⟨hi8, hi9⟩, hi10, hi11⟩ := HI.out
      have hbs : Below w.heap.size W (W.setCell ⟨w.heap.size + 1 + 1 + 1 + 1, 0, none⟩ (.int .i64 ((n : Int) + 1))) := (Below.refl _ _).setCell (p := ⟨w.heap.size + 1 + 1 + 1 + 1, 0, none⟩) (by simp; omega) _
      have far : ∀ (k : Nat), k ≠ w.heap.size + 1 + 1 + 1 + 1 → (W.setCell ⟨w.heap.size + 1 + 1 + 1 + 1, 0, none⟩ (.int .i64 ((n : Int) + 1))).heap[k]? = W.heap[k]? := fun k hk => Below.heap_setCell _ _ _ _ (by simpa using hk)
      refine ⟨(KeepsOthers.setCell _ _ _).from _, ⟨hbs.mono hB, fun k hk => far k (fun e => hi9 (e ▸ hk))⟩, fun k hk => ?_, ⟨(far _ (by omega)).trans hi2, hi3⟩, ⟨(far _ (by omega)).trans hi4, hi5⟩, ⟨(far _ (by omega)).trans hi6, hi7⟩, ⟨?_, hi9⟩, hi10.trans hbs, hi11⟩
      · rw [List.length_append, List.length_singleton] at hk
        by_cases hk2 : k < pre.length
        · exact hi1 k hk2
        · have : k = n := by have := HN.out; omega
          rw [this]; exact HNE.out
      · rw [List.length_append, List.length_singleton, Int.natCast_add, Int.natCast_one, HN.out]
        exact hi8.set _
    · have hne : (n : Int) = i := by simpa using hb
      have HNE := Lib.hid hne
      clear hne
      gi_wp2_with (refine ⟨trivial, ?_⟩; gi_at_call 18; refine (CallsIn.inRound l (callsIn_wide.2 FA.out)).mono ?_; rintro e w' ⟨⟨v1, v2, v3⟩, ⟨s1, s2, s3⟩, rfl, hbw, hfr⟩; have hE := (hbw.block _ (by omega)).trans HI.out.2.2.1.1; obtain ⟨r0, r1, r2, r3, r4, r5, r6, r7, r8, y0, y1, y2, y3, y4, y5, y6, y7, y8⟩ := ert0_cells hE; obtain ⟨WF, hWF⟩ : ∃ WF, (((((((((w'.setCell ⟨w.heap.size + 1 + 1, 0, none⟩ (.int .i64 z1)).setCell ⟨w.heap.size + 1 + 1, 1, none⟩ (.string z2)).setCell ⟨w.heap.size + 1 + 1, 2, none⟩ (.int .i64 z3)).setCell ⟨w.heap.size + 1 + 1, 3, none⟩ (.int .i64 z4)).setCell ⟨w.heap.size + 1 + 1, 4, none⟩ (.int .i64 z5)).setCell ⟨w.heap.size + 1 + 1, 5, none⟩ (.slice v1 v2 v3)).setCell ⟨w.heap.size + 1 + 1, 6, none⟩ (.slice s1 s2 s3)).setCell ⟨w.heap.size + 1 + 1, 7, none⟩ (.int .i64 z9)).setCell ⟨w.heap.size + 1 + 1, 8, none⟩ (.int .i64 z10)) = WF := ⟨_, rfl⟩; have hwf := set9_block (g := w.heap.size + 1 + 1) (⟨z1, z2, z3, z4, z5, (v1, v2, v3), z7, (s1, s2, s3), z9, z10⟩ : Nd) hE; dsimp only [slv] at hwf; rw [hWF] at hwf; have hx3 : Boxed WF (w.heap.size + 1 + 1 + 1) 4 (.bool false) := (hwf.2.2.1 _ (by omega)).trans ((hbw.block _ (by omega)).trans HI.out.2.2.2.1.1); have g3 := hx3.cell; have g3' := hx3.frozen; have HX3 := Lib.hid hx3; have HWF := Lib.hid hwf; have HBW := Lib.hid hbw; have HFR := Lib.hid hfr; clear hx3 hwf hbw hfr hE)
      obtain ⟨hi1, ⟨hi2, hi3⟩, ⟨hi4, hi5⟩, ⟨hi6, hi7⟩, ⟨hi8, hi9⟩, hi10, hi11⟩ := HI.out
      obtain ⟨q1, q2, q3, q4⟩ := HWF.out
      have hbW := HBW.out
      have hszW := hbW.size
      obtain ⟨W9, hW9⟩ : ∃ W9, WF.setCell ⟨w.heap.size + 1 + 1 + 1, 0, none⟩ (.bool true) = W9 := ⟨_, rfl⟩
      rw [hW9]
      have far : ∀ (k : Nat), k ≠ w.heap.size + 1 + 1 → k ≠ w.heap.size + 1 + 1 + 1 → k < W.heap.size → W9.heap[k]? = W.heap[k]? := fun k h1 h2 h3 => by
        rw [← hW9, Below.heap_setCell _ _ _ _ (by simpa using h2), q3 k h1]
        exact hbW.block k h3
      have far' : ∀ (k : Nat), k ≠ w.heap.size + 1 + 1 → k ≠ w.heap.size + 1 + 1 + 1 → W9.heap[k]? = w'.heap[k]? := fun k h1 h2 => by
        rw [← hW9, Below.heap_setCell _ _ _ _ (by simpa using h2), q3 k h1]
      have hs9 : W9.heap.size = w'.heap.size := by rw [← hW9]; simp [World.setCell]; exact q2
      have hb9 : Below w.heap.size W W9 := by
        have h1 : Below w.heap.size w' WF := q4.mono (by omega)
        have h2 : Below w.heap.size WF W9 := by rw [← hW9]; exact (Below.refl _ _).setCell (p := ⟨w.heap.size + 1 + 1 + 1, 0, none⟩) (by simp only; omega) _
        exact (hbW.mono (by omega)).trans (h1.trans h2)
      have hfm := (FreshE.at HFR.out)
      refine ⟨?_, ⟨rfl, ((⟨z1, z2, z3, z4, z5, (zu1, zu2, zu3), z7, (zv1, zv2, zv3), z9, z10⟩ : Nd), zp), (v1, v2, v3), (s1, s2, s3), W.heap.size, w'.heap.size, ?_, ?_, by omega, ⟨?_, hi5⟩, ⟨?_, hi7⟩, ⟨?_, ?_⟩, hi10.trans hb9, hi11⟩, ?_⟩
      · refine ⟨by omega, fun j o hj ho hc => ?_⟩
        have := HBL.out.2
        exact (far j (by omega) (by omega) (Array.getElem?_eq_some_iff.1 ho).1).trans ho
      · rw [List.length_append, List.length_singleton, HN.out, ← HNE.out]; omega
      · rw [← HNE.out, Int.toNat_natCast]; exact HT.out.2
      · rw [← hW9, Below.heap_setCell _ _ _ _ (by simp only; omega)]; exact q1
      · rw [← hW9]; exact HX3.out.set _
      · exact hfm.to (by omega) fun b o h1 h2 h3 _ => (far' b (by omega) (by omega)).trans h3
      · intro b h1 h2 hOb
        have := (HO.out b hOb).2
        omega
      · exact ⟨hb9.mono hB, fun k hk => far k (fun e => hi5 (e ▸ hk)) (fun e => hi7 (e ▸ hk)) (HO.out k hk).2⟩
  case done =>
    rintro D O ys W hD rfl ⟨hi1, ⟨hi2, hi3⟩, ⟨hi4, hi5⟩, ⟨hi6, hi7⟩, ⟨hi8, hi9⟩, hi10, hi11⟩ hK
    obtain ⟨r0, r1, r2, r3, r4, r5, r6, r7, r8, y0, y1, y2, y3, y4, y5, y6, y7, y8⟩ := ert0_cells hi4
    obtain ⟨WF, hWF⟩ : ∃ WF, (((((((((W.setCell ⟨w.heap.size + 1 + 1, 0, none⟩ (.int .i64 0)).setCell ⟨w.heap.size + 1 + 1, 1, none⟩ (.string ⟨#[]⟩)).setCell ⟨w.heap.size + 1 + 1, 2, none⟩ (.int .i64 0)).setCell ⟨w.heap.size + 1 + 1, 3, none⟩ (.int .i64 0)).setCell ⟨w.heap.size + 1 + 1, 4, none⟩ (.int .i64 0)).setCell ⟨w.heap.size + 1 + 1, 5, none⟩ (.slice none 0 0)).setCell ⟨w.heap.size + 1 + 1, 6, none⟩ (.slice none 0 0)).setCell ⟨w.heap.size + 1 + 1, 7, none⟩ (.int .i64 0)).setCell ⟨w.heap.size + 1 + 1, 8, none⟩ (.int .i64 0)) = WF := ⟨_, rfl⟩
    have hwf := set9_block (g := w.heap.size + 1 + 1) nd0 hi4
    dsimp only [slv, nd0] at hwf
    rw [show ByteArray.empty = ⟨#[]⟩ from rfl, hWF] at hwf
    have hx3 : Boxed WF (w.heap.size + 1 + 1 + 1) 4 (.bool false) := (hwf.2.2.1 _ (by omega)).trans hi6
    have g3 := hx3.cell
    have g3' := hx3.frozen
    have HALL := Lib.hid (And.intro hi1 (And.intro hi10 (And.intro hwf hx3)))
    have HKK := Lib.hid hK
    clear hi1 hi2 hi3 hi4 hi5 hi6 hi7 hi8 hi9 hi10 hi11 hwf hx3 hK hb2
    gi_wp2
    obtain ⟨hi1, hi10, ⟨q1, q2, q3, q4⟩, hx3⟩ := HALL.out
    obtain ⟨W9, hW9⟩ : ∃ W9, WF.setCell ⟨w.heap.size + 1 + 1 + 1, 0, none⟩ (.bool false) = W9 := ⟨_, rfl⟩
    rw [hW9]
    have hK9 : W9.heap[D]? = some (.deferred (some [])) := by
      rw [← hW9, Below.heap_setCell _ _ _ _ (by simp only; omega), q3 D (by omega)]
      exact HKK.out
    have hb9 : Below w.heap.size W W9 := by
      have h2 : Below w.heap.size WF W9 := by rw [← hW9]; exact (Below.refl _ _).setCell (p := ⟨w.heap.size + 1 + 1 + 1, 0, none⟩) (by simp only; omega) _
      exact (q4.mono (by omega)).trans h2
    have hg := grownBy_putObj' W9 D (.deferred none)
    have hWl : w.heap.size + 1 + 1 < W.heap.size := by
      have := (Array.getElem?_eq_some_iff.1 q1).1
      omega
    have hs9 : W9.heap.size = W.heap.size := by rw [← hW9]; simp [World.setCell]; exact q2
    have q9 : (W9.putObj D (.deferred none)).heap[w.heap.size + 1 + 1]? = some (Obj.cells (ndC nd0).toArray 29) := by
      rw [hg.block _ (by omega) (fun e => by cases e; omega), ← hW9, Below.heap_setCell _ _ _ _ (by simp only; omega)]
      exact q1
    have q8 : Boxed (W9.putObj D (.deferred none)) (w.heap.size + 1 + 1 + 1) 4 (.bool false) := by
      refine Boxed.kept (W := W9) ?_ hg (fun e => by cases e; omega)
      rw [← hW9]; exact hx3.set _
    refine ⟨by simp, .inl ⟨_, _, rfl, run_takeDeferred hK9, ?_⟩⟩
    refine ⟨_, results_box2 rfl _ _ _ _ _ _ rfl rfl (load_te (NdAt.of_block q9)) (load_bool q8.cell), ?_, .inr ⟨?_, rfl⟩⟩
    · have h1 := hi10.trans hb9
      exact h1.trans ((Below.refl _ _).grown hg h1.size (fun k e => by cases e; omega))
    · by_cases h0 : i < 0
      · exact .inl h0
      · right
        have := hi1 i.toNat
        by_cases h1 : i.toNat < (one_ X ps).pre.length
        · exact absurd (Int.toNat_of_nonneg (by omega)) (this h1)
        · omega
  case stop =>
    rintro D c O pre W hD ⟨hne, s, hsp⟩ ⟨rfl, t, tu, u, B1, M, h1, h2, h3, ⟨h4, h4'⟩, ⟨h5, h5'⟩, ⟨h6, h6'⟩, h7, h7'⟩ hK
    gi_wp2
    have hs6 := HBL.out.2
    have hil := (List.getElem?_eq_some_iff.1 h2).1
    have hg := grownBy_putObj' W D (.deferred none)
    have q9 : (W.putObj D (.deferred none)).heap[w.heap.size + 1 + 1]? = some (Obj.cells (ndC { t.1 with tu := tu, u := u }).toArray 29) := (hg.block _ (Array.getElem?_eq_some_iff.1 h4).1 (fun e => by cases e; omega)).trans h4
    have q8 : Boxed (W.putObj D (.deferred none)) (w.heap.size + 1 + 1 + 1) 4 (.bool true) := h5.kept hg (fun e => by cases e; omega)
    refine ⟨by simp, .inl ⟨_, _, rfl, run_takeDeferred hK, ?_⟩⟩
    refine ⟨_, results_box2 rfl _ _ _ _ _ _ rfl rfl (load_te (NdAt.of_block q9)) (load_bool q8.cell), h7.trans ((Below.refl _ _).grown hg h7.size (fun k e => by cases e; omega)), .inl ⟨t, tu, u, B1, M, by omega, ?_, rfl, h3, h6.own hg fun r e => ⟨_, by cases e; exact hK, rfl⟩⟩⟩
    rw [← hsp, List.getElem?_append_left (List.getElem?_eq_some_iff.1 h2).1]
    exact h2
end Go.Proofs.Ytfoangiphbmipaa
