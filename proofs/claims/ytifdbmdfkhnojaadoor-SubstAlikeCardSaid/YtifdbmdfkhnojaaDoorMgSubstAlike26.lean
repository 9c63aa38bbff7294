/- Texts of one proof, one behind the other. -/
import Derived.Test.YtifdbmdfkhnojaaDoorMgSubstAlike25
import Derived.Test.YtifdbmdfkhnojaaDoorMgSubstAlike20
/- Maps from numbers that a call made, told as functions: whatever their elements are. -/
namespace Go.Proofs.YtifdbmdfkhnojaaDoor
open Go.RowKit Go.Shelf Go.Maps Go.WideShapes Go.ChangeMaps Go.MapKept

/-- How an element reads: as it is. -/
def heldE (v : Value) : Option (DataW Value × List MemPlace) := some (.held v, [])
/-- A map's type: its keys are numbers, its elements have that zero. -/
structure MapTy (mt e : TypeId) (z : Value) : Prop where
  und : Tryd.prog.underlying mt = some (.map 3 e)
  zero : ∀ w, (zeroValue e).run Tryd.prog w = .ok z w
/-- One more. -/
def upd (f : Int → Option Value) (n : Int) (v : Value) : Int → Option Value := fun m => if m = n then some v else f m
/-- A map that has these, so many, laid by at most so many stores. -/
def MapF (f : Int → Option Value) (S L b : Nat) (W : World) : Prop :=
  ∃ (k : Nat) (D : DataW Value), W.ownsMap Tryd.prog 3 heldE b k D ∧ k ≤ L ∧ Tidy D ∧ Maps.size D = S ∧ ∀ n : Int, (Lit.int .i64 n).wf = true → has D (.int .i64 n) = (f n).isSome ∧ ∀ z, D.atKey (.int .i64 n) (.held z) = .held ((f n).getD z)
theorem MapF.made (w : World) : MapF (fun _ => none) 0 0 w.heap.size (w.alloc (.map #[] 0)) := ⟨0, .map [], World.ownsMap_made _ _ _ _, Nat.le_refl _, tidy_empty, rfl, fun _ _ => ⟨rfl, fun _ => rfl⟩⟩
theorem MapF.kept {f : Int → Option Value} {S L b : Nat} {W W' : World} {row : Option Nat} (h : MapF f S L b W) (hg : W.grownBy W' row) (hne : some b ≠ row) : MapF f S L b W' := by
  obtain ⟨k, D, h1, h2⟩ := h
  exact ⟨k, D, h1.kept hg hne, h2⟩
theorem MapF.block {f : Int → Option Value} {S L b : Nat} {W W' : World} (h : MapF f S L b W) (hb : W'.heap[b]? = W.heap[b]?) : MapF f S L b W' := by
  obtain ⟨k, D, ⟨es, ck, h1, h3⟩, h2⟩ := h
  exact ⟨k, D, ⟨es, ck, hb.trans h1, h3⟩, h2⟩
theorem MapF.lt {f : Int → Option Value} {S L b : Nat} {W : World} (h : MapF f S L b W) : b < W.heap.size := by obtain ⟨_, _, h1, _⟩ := h; exact h1.lt
theorem MapF.below {f : Int → Option Value} {S L b : Nat} {W W' : World} (h : MapF f S L b W) (hb : Below W.heap.size W W') : MapF f S L b W' := h.block (hb.block b h.lt)
theorem MapF.le {f : Int → Option Value} {S L L' b : Nat} {W : World} (h : MapF f S L b W) (hl : L ≤ L') : MapF f S L' b W := by
  obtain ⟨k, D, h1, h2, h3⟩ := h
  exact ⟨k, D, h1, Nat.le_trans h2 hl, h3⟩
theorem MapF.ext {f g : Int → Option Value} {S L b : Nat} {W : World} (h : MapF f S L b W) (he : ∀ n, (Lit.int .i64 n).wf = true → f n = g n) : MapF g S L b W := by
  obtain ⟨k, D, h1, h2, h3, h4, h5⟩ := h
  exact ⟨k, D, h1, h2, h3, h4, fun n hn => by rw [← he n hn]; exact h5 n hn⟩
theorem MapF.look {f : Int → Option Value} {S L b : Nat} {W : World} (h : MapF f S L b W) {mt e : TypeId} {z : Value} (M : MapTy mt e z) (n : Int) (hn : (Lit.int .i64 n).wf = true) : (Instr.lookup mt (.map (some b)) (.int .i64 n) false).run Tryd.prog W = .ok ((f n).getD z) W := by
  obtain ⟨k, D, h1, _, _, _, h3⟩ := h
  obtain ⟨v, ps, hrun, hv⟩ := h1.lookup lawI M.und (M.zero W) (zd := .held z) (zp := []) rfl (keyOf_int_mk Tryd.underlying3 hn)
  rw [(h3 n hn).2] at hv
  simp only [heldE, Option.some.injEq, Prod.mk.injEq, DataW.held.injEq] at hv
  rw [hrun, hv.1]
theorem MapF.look_ok {f : Int → Option Value} {S L b : Nat} {W : World} (h : MapF f S L b W) {mt e : TypeId} {z : Value} (M : MapTy mt e z) (n : Int) (hn : (Lit.int .i64 n).wf = true) : (Instr.lookup mt (.map (some b)) (.int .i64 n) true).run Tryd.prog W = .ok (.tuple #[(f n).getD z, .bool (f n).isSome]) W := by
  obtain ⟨k, D, h1, _, _, _, h3⟩ := h
  obtain ⟨v, ps, hrun, hv⟩ := h1.look_ok lawI M.und (M.zero W) (zd := .held z) (zp := []) rfl (keyOf_int_mk Tryd.underlying3 hn)
  rw [(h3 n hn).2] at hv
  simp only [heldE, Option.some.injEq, Prod.mk.injEq, DataW.held.injEq] at hv
  rw [hrun, hv.1, (h3 n hn).1]
theorem MapF.len {f : Int → Option Value} {S L b : Nat} {W : World} (h : MapF f S L b W) {mt e : TypeId} {z : Value} (M : MapTy mt e z) (ty : TypeId) : (Builtin.len_ #[mt] ty #[.map (some b)]).run Tryd.prog W = .ok (.int .i64 S) W := by
  obtain ⟨k, D, h1, _, _, h2, _⟩ := h
  have := h1.len M.und ty
  rwa [h2] at this
theorem MapF.put {f : Int → Option Value} {S L b : Nat} {W : World} (h : MapF f S L b W) {mt e : TypeId} {z : Value} (M : MapTy mt e z) (hl : L ≤ 1000000000) (n : Int) (hn : (Lit.int .i64 n).wf = true) (v : Value) :
    ∃ W', (Instr.mapUpdate mt (.map (some b)) (.int .i64 n) v).run Tryd.prog W = .ok () W' ∧ MapF (upd f n v) (if (f n).isSome then S else S + 1) (L + 1) b W' ∧ W.grownBy W' (some b) ∧ (∀ i, i ≠ b → W'.heap[i]? = W.heap[i]?) ∧ W'.heap.size = W.heap.size := by
  obtain ⟨k, D, h1, h2, ht, hs, h3⟩ := h
  obtain ⟨w', hrun, ho, hg⟩ := h1.store lawI M.und (by unfold maxLen; omega) (keyOf_int_mk Tryd.underlying3 hn) (val := v) (d := .held v) (ps := []) rfl
  refine ⟨w', hrun, ⟨k + 1, _, ho, by omega, ht.put (by trivial) _, ?_, fun m hm2 => ?_⟩, hg.grown, ?_, ?_⟩
  · rw [size_put ht, (h3 n hn).1, hs]
  · by_cases e : m = n
    · subst e
      exact ⟨by rw [has_put_same ht.isMap (by trivial)]; simp [upd], fun z => by rw [atKey_put_same ht.isMap (by trivial)]; simp [upd]⟩
    · have hne : (Lit.int .i64 m) ≠ .int .i64 n := by simpa using e
      exact ⟨by rw [has_put_other hne, (h3 m hm2).1]; simp [upd, e], fun z => by rw [atKey_put_other hne, (h3 m hm2).2]; simp [upd, e]⟩
  · obtain ⟨es, ck, es', ck', hb, rfl⟩ := hg
    exact fun i hi => heap_setBlock_other hb _ hi
  · obtain ⟨es, ck, es', ck', hb, rfl⟩ := hg
    simp [setBlock]
/-- Nothing is found in a map that isn't there. -/
theorem nil_look {mt e : TypeId} {z : Value} (M : MapTy mt e z) (W : World) (n : Int) (hn : (Lit.int .i64 n).wf = true) (c : Bool) : (Instr.lookup mt (.map none) (.int .i64 n) c).run Tryd.prog W = .ok (if c then .tuple #[z, .bool false] else z) W :=
  look_nil c lawI M.und (M.zero W) (keyOf_int_mk Tryd.underlying3 hn)
end Go.Proofs.YtifdbmdfkhnojaaDoor
/- An argument that is a type, opened. -/
namespace Go.Proofs.YtifdbmdfkhnojaaDoor
open Go.RowKit Go.ChangeShapes Go.WideShapes Go.ChangeAt Go.Deep

set_option maxRecDepth 100000 in
theorem ArgT1_open {H : Type} {enc : TypeId × Value → H} {W : World} {v : Value} {d : DataW H} {p : List MemPlace} {r : Reach} {base : Nat}
    (hv : Value.okWide Tryd.prog W r base 25 v) (h : DataW.Trod enc Tryd.prog W 0 (fun _ => true) true 25 v d p) : ∃ (k n : Int) (F : Fo) (u : Sl), v = tyVal k n (slv u) ∧ TyV W.heap.size W F (slv u) ∧ (Lit.int .i64 n).wf = true ∧ F.wf := by
  obtain ⟨cs, rfl, hsz⟩ := okWide_struct Tryd.underlying25 hv
  have hC : Tryd.prog.cellsOf 25 = 3 := by kernel_rfl
  rw [hC] at hsz
  obtain ⟨fuel, hf⟩ := h
  obtain ⟨ys, n', hn', _, hlen2, hyl, hfld⟩ := DataW.trod_struct Tryd.underlying25 hf
  have hI : Tryd.prog.cellsOf 3 = 1 := by kernel_rfl
  have hS : Tryd.prog.cellsOf 23 = 1 := by kernel_rfl
  have hyl' : ys.length = 3 := hyl
  match cs, hsz with
  | ⟨[c0, c1, c2]⟩, _ =>
    have q0 : DataW.trod enc Tryd.prog W 0 (fun _ => true) true n' 3 (([c0, c1, c2].drop 0).take (Tryd.prog.cellsOf 3)) = ys[0]? := hfld 0 _ rfl
    have q1 : DataW.trod enc Tryd.prog W 0 (fun _ => true) true n' 3 (([c0, c1, c2].drop 1).take (Tryd.prog.cellsOf 3)) = ys[1]? := hfld 1 _ rfl
    have q2 : DataW.trod enc Tryd.prog W 0 (fun _ => true) true n' 23 (([c0, c1, c2].drop 2).take (Tryd.prog.cellsOf 23)) = ys[2]? := hfld 2 _ rfl
    rw [hI, List.getElem?_eq_getElem (by omega)] at q0
    rw [hI, List.getElem?_eq_getElem (by omega)] at q1
    rw [hS, List.getElem?_eq_getElem (by omega)] at q2
    obtain ⟨k0, hk0, _, _⟩ := DataW.trod_int Tryd.underlying3 q0
    obtain ⟨k1, hk1, _, hw1⟩ := DataW.trod_int Tryd.underlying3 q1
    obtain ⟨F, u, hu, hF, hFw⟩ := types_read n' c2 _ q2
    simp at hk0 hk1
    subst hk0; subst hk1; subst hu
    exact ⟨k0, k1, F, u, rfl, hF, hw1, hFw⟩
end Go.Proofs.YtifdbmdfkhnojaaDoor
/- Binds in memory; an argument that is a slice of binds, opened. -/
namespace Go.Proofs.YtifdbmdfkhnojaaDoor
open Go.RowKit Go.ChangeShapes Go.WideShapes Go.ChangeAt Go.Deep
/-- A bind's cells. -/
def bdC (b : Bnd) : List Value := [.int .i64 b.1, .int .i64 b.2.1, .int .i64 b.2.2.1, slv b.2.2.2.1]
def bdV (b : Bnd) : Value := .agg #[.int .i64 b.1, .int .i64 b.2.1, .int .i64 b.2.2.1, slv b.2.2.2.1]
/-- Its type's value. -/
def bdT (b : Bnd) : Value := tyVal b.2.1 b.2.2.1 (slv b.2.2.2.1)
/-- A slice value that reads as these binds, below block B. -/
def BdV (B : Nat) (w : World) (l : List Bnd) (v : Value) : Prop :=
  ∃ A c, v = .slice A l.length c ∧ (0 < l.length → ∃ b off, A = some ⟨b, off, none⟩ ∧ b < B ∧ l.length ≤ c ∧ c ≤ maxLen ∧
    ∀ i (h : i < l.length), w.cell? ⟨b, off + i * 4, none⟩ = some (.int .i64 l[i].1) ∧ w.cell? ⟨b, off + i * 4 + 1, none⟩ = some (.int .i64 l[i].2.1) ∧ w.cell? ⟨b, off + i * 4 + 2, none⟩ = some (.int .i64 l[i].2.2.1) ∧ w.cell? ⟨b, off + i * 4 + 3, none⟩ = some (slv l[i].2.2.2.1)) ∧
    ∀ x ∈ l, TyV B w x.2.2.2.2 (slv x.2.2.2.1)
/-- Each number is one that an int may be. -/
def BdW (l : List Bnd) : Prop := ∀ x ∈ l, (Lit.int .i64 x.1).wf = true ∧ (Lit.int .i64 x.2.2.1).wf = true ∧ x.2.2.2.2.wf
theorem BdV.keep {B B' : Nat} {w w' : World} {l : List Bnd} {v : Value} (h : BdV B w l v) (hB : B ≤ B') (hk : ∀ b off, b < B → w'.cell? ⟨b, off, none⟩ = w.cell? ⟨b, off, none⟩) : BdV B' w' l v := by
  obtain ⟨A, c, hv, h1, h2⟩ := h
  refine ⟨A, c, hv, fun hn => ?_, fun x hx => (h2 x hx).keep hB hk⟩
  obtain ⟨b, off, hA, hb, hc, hm, hat⟩ := h1 hn
  exact ⟨b, off, hA, by omega, hc, hm, fun i hi => ⟨(hk _ _ hb).trans (hat i hi).1, (hk _ _ hb).trans (hat i hi).2.1, (hk _ _ hb).trans (hat i hi).2.2.1, (hk _ _ hb).trans (hat i hi).2.2.2⟩⟩
theorem BdV.below {B : Nat} {w w' : World} {l : List Bnd} {v : Value} (h : BdV B w l v) (hb : Below B w w') : BdV B w' l v := h.keep (Nat.le_refl _) fun b off hlt => hb.cell (p := ⟨b, off, none⟩) hlt
/-- .. told of a later world's own size. -/
theorem BdV.later {w w' : World} {l : List Bnd} {v : Value} (h : BdV w.heap.size w l v) (hb : Below w.heap.size w w') : BdV w'.heap.size w' l v := h.keep hb.size fun b off hlt => hb.cell (p := ⟨b, off, none⟩) hlt
theorem TyV.later {w w' : World} {f : Fo} {v : Value} (h : TyV w.heap.size w f v) (hb : Below w.heap.size w w') : TyV w'.heap.size w' f v := h.keep hb.size fun b off hlt => hb.cell (p := ⟨b, off, none⟩) hlt
theorem BdV.form {B : Nat} {w : World} {l : List Bnd} {v : Value} (h : BdV B w l v) : ∃ A c, v = .slice A l.length c := by obtain ⟨A, c, hv, _⟩ := h; exact ⟨A, c, hv⟩
/-- A place's cells. -/
theorem BdV.at {B : Nat} {w : World} {l : List Bnd} {A : Option Addr} {n c : Nat} (h : BdV B w l (.slice A n c)) (j : Nat) (hj : j < l.length) : ∃ b off, A = some ⟨b, off, none⟩ ∧ b < B ∧
    w.cell? ⟨b, off + j * 4, none⟩ = some (.int .i64 l[j].1) ∧ w.cell? ⟨b, off + j * 4 + 1, none⟩ = some (.int .i64 l[j].2.1) ∧ w.cell? ⟨b, off + j * 4 + 2, none⟩ = some (.int .i64 l[j].2.2.1) ∧ w.cell? ⟨b, off + j * 4 + 3, none⟩ = some (slv l[j].2.2.2.1) := by
  obtain ⟨A', c', hv, h1, _⟩ := h
  injection hv with e1 e2 e3
  obtain ⟨b, off, hA, hb, _, _, hat⟩ := h1 (by omega)
  exact ⟨b, off, by rw [e1, hA], hb, hat j hj⟩
set_option maxRecDepth 100000 in
theorem binds_read {H : Type} {enc : TypeId × Value → H} {W : World} (fuel : Nat) (v : Value) (x : DataW H × List MemPlace) (h : DataW.trod enc Tryd.prog W 0 (fun _ => true) true fuel 22 [v] = some x) : ∃ (l : List Bnd), BdV W.heap.size W l v ∧ BdW l := by
  rcases DataW.trod_slice Tryd.underlying22 h with ⟨hcs, _⟩ | ⟨a, len, cap, elems, rest, n, hfu, hcs, _, _, hl, hm, hlen, hel, _, _⟩
  · simp at hcs
    subst hcs
    exact ⟨[], ⟨none, 0, rfl, fun h => by simp at h, fun x hx => by cases hx⟩, fun x hx => by cases hx⟩
  · simp at hcs
    subst hcs
    have hC : Tryd.prog.cellsOf 49 = 4 := by kernel_rfl
    have hT : Tryd.prog.cellsOf 25 = 3 := by kernel_rfl
    have hI : Tryd.prog.cellsOf 3 = 1 := by kernel_rfl
    have hS : Tryd.prog.cellsOf 23 = 1 := by kernel_rfl
    rw [hC] at hel
    have key : ∀ i, i < len → ∃ t : Bnd, W.cell? (a.add (i * 4)) = some (.int .i64 t.1) ∧ W.cell? ((a.add (i * 4)).add 1) = some (.int .i64 t.2.1) ∧ W.cell? ((a.add (i * 4)).add 2) = some (.int .i64 t.2.2.1) ∧ W.cell? ((a.add (i * 4)).add 3) = some (slv t.2.2.2.1) ∧ TyV W.heap.size W t.2.2.2.2 (slv t.2.2.2.1) ∧ (Lit.int .i64 t.1).wf = true ∧ (Lit.int .i64 t.2.2.1).wf = true ∧ t.2.2.2.2.wf := by
      intro i hil
      have he := hel i hil
      rw [List.getElem?_eq_getElem (by omega)] at he
      obtain ⟨cs', hc, ht'⟩ := Option.bind_eq_some_iff.1 he
      obtain ⟨ys, n', hn', _, hlen2, hyl, hfld⟩ := DataW.trod_struct Tryd.underlying49 ht'
      rw [hC] at hlen2
      obtain ⟨_, hcl, hat⟩ := World.cells?_some hc
      have q0 : DataW.trod enc Tryd.prog W 0 (fun _ => true) true n' 3 ((cs'.drop 0).take (Tryd.prog.cellsOf 3)) = ys[0]? := hfld 0 _ rfl
      have q1 : DataW.trod enc Tryd.prog W 0 (fun _ => true) true n' 25 ((cs'.drop 1).take (Tryd.prog.cellsOf 25)) = ys[1]? := hfld 1 _ rfl
      have hyl' : ys.length = 2 := hyl
      rw [hI, List.getElem?_eq_getElem (by omega)] at q0
      rw [hT, List.getElem?_eq_getElem (by omega)] at q1
      obtain ⟨k0, hk0, _, hw0⟩ := DataW.trod_int Tryd.underlying3 q0
      match cs', hlen2 with
      | [c0, c1, c2, c3], _ =>
        obtain ⟨zs, n2, hn2, _, hlen3, hzl, hfld2⟩ := DataW.trod_struct Tryd.underlying25 q1
        have p0 : DataW.trod enc Tryd.prog W 0 (fun _ => true) true n2 3 (([c1, c2, c3].drop 0).take (Tryd.prog.cellsOf 3)) = zs[0]? := hfld2 0 _ rfl
        have p1 : DataW.trod enc Tryd.prog W 0 (fun _ => true) true n2 3 (([c1, c2, c3].drop 1).take (Tryd.prog.cellsOf 3)) = zs[1]? := hfld2 1 _ rfl
        have p2 : DataW.trod enc Tryd.prog W 0 (fun _ => true) true n2 23 (([c1, c2, c3].drop 2).take (Tryd.prog.cellsOf 23)) = zs[2]? := hfld2 2 _ rfl
        have hzl' : zs.length = 3 := hzl
        rw [hI, List.getElem?_eq_getElem (by omega)] at p0
        rw [hI, List.getElem?_eq_getElem (by omega)] at p1
        rw [hS, List.getElem?_eq_getElem (by omega)] at p2
        obtain ⟨k1, hk1, _, _⟩ := DataW.trod_int Tryd.underlying3 p0
        obtain ⟨k2, hk2, _, hw2⟩ := DataW.trod_int Tryd.underlying3 p1
        obtain ⟨F, u, hu, hF, hFw⟩ := types_read n2 c3 _ p2
        simp at hk0 hk1 hk2
        subst hk0; subst hk1; subst hk2; subst hu
        refine ⟨(k0, k1, k2, u, F), ?_, ?_, ?_, ?_, hF, hw0, hw2, hFw⟩
        · have := hat 0 (by omega)
          simpa [Addr.add] using this
        · exact hat 1 (by omega)
        · exact hat 2 (by omega)
        · exact hat 3 (by omega)
    by_cases h0 : len = 0
    · subst h0
      exact ⟨[], ⟨_, _, rfl, fun h => by simp at h, fun x hx => by cases hx⟩, fun x hx => by cases hx⟩
    · obtain ⟨b, off, spot⟩ := a
      obtain ⟨t0, hc0, _⟩ := key 0 (by omega)
      have hspot : spot = none := by simpa [Addr.add] using World.cell?_spot hc0
      subst hspot
      have hb : b < W.heap.size := by simpa [Addr.add] using World.block_lt_of_cell? _ _ hc0
      obtain ⟨ts, htl, hP⟩ := listOf _ len key
      subst htl
      simp only [Addr.add_lit] at hP
      refine ⟨ts, ⟨_, _, rfl, fun _ => ⟨b, off, rfl, hb, hl, hm, fun i hi => ⟨(hP i hi).1, (hP i hi).2.1, (hP i hi).2.2.1, (hP i hi).2.2.2.1⟩⟩, fun x hx => ?_⟩, fun x hx => ?_⟩
      · obtain ⟨i, hi, rfl⟩ := List.mem_iff_getElem.1 hx
        exact (hP i hi).2.2.2.2.1
      · obtain ⟨i, hi, rfl⟩ := List.mem_iff_getElem.1 hx
        exact (hP i hi).2.2.2.2.2
theorem ArgB_open {H : Type} {enc : TypeId × Value → H} {W : World} {v : Value} {d : DataW H} {p : List MemPlace}
    (h : DataW.Trod enc Tryd.prog W 0 (fun _ => true) true 22 v d p) (hc : v.cells = #[v]) : ∃ l, BdV W.heap.size W l v ∧ BdW l := by
  obtain ⟨fuel, hf⟩ := h
  rw [hc] at hf
  exact binds_read fuel v _ hf
end Go.Proofs.YtifdbmdfkhnojaaDoor
