/- Texts of one proof, one behind the other. -/
import Derived.Test.YtbdckmnppeglfaaMgGraphAdds17
import Derived.Test.YtbdckmnppeglfaaMgGraphAdds25
import Derived.Test.YtbdckmnppeglfaaMgGraphAdds19
import Derived.Test.YtbdckmnppeglfaaMgGraphAdds1
import Derived.Test.YtbdckmnppeglfaaMgGraphAdds18
/- An argument that is a type, opened. -/
namespace Go.Proofs.Ytbdckmnppeglfaa
open Go.RowKit Go.ChangeShapes Go.WideShapes Go.ChangeAt Go.Deep

set_option maxRecDepth 100000 in
theorem ArgT1_open {H : Type} {enc : TypeId × Value → H} {W : World} {v : Value} {d : DataW H} {p : List MemPlace} {r : Reach} {base : Nat}
    (hv : Value.okWide Try.prog W r base 38 v) (h : DataW.Trod enc Try.prog W 0 (fun _ => true) true 38 v d p) : ∃ (k n : Int) (F : Fo) (u : Sl), v = tyVal k n (slv u) ∧ TyV W.heap.size W F (slv u) ∧ (Lit.int .i64 n).wf = true ∧ F.wf := by
  obtain ⟨cs, rfl, hsz⟩ := okWide_struct Try.underlying38 hv
  have hC : Try.prog.cellsOf 38 = 3 := by kernel_rfl
  rw [hC] at hsz
  obtain ⟨fuel, hf⟩ := h
  obtain ⟨ys, n', hn', _, hlen2, hyl, hfld⟩ := DataW.trod_struct Try.underlying38 hf
  have hI : Try.prog.cellsOf 3 = 1 := by kernel_rfl
  have hS : Try.prog.cellsOf 22 = 1 := by kernel_rfl
  have hyl' : ys.length = 3 := hyl
  match cs, hsz with
  | ⟨[c0, c1, c2]⟩, _ =>
    have q0 : DataW.trod enc Try.prog W 0 (fun _ => true) true n' 3 (([c0, c1, c2].drop 0).take (Try.prog.cellsOf 3)) = ys[0]? := hfld 0 _ rfl
    have q1 : DataW.trod enc Try.prog W 0 (fun _ => true) true n' 3 (([c0, c1, c2].drop 1).take (Try.prog.cellsOf 3)) = ys[1]? := hfld 1 _ rfl
    have q2 : DataW.trod enc Try.prog W 0 (fun _ => true) true n' 22 (([c0, c1, c2].drop 2).take (Try.prog.cellsOf 22)) = ys[2]? := hfld 2 _ rfl
    rw [hI, List.getElem?_eq_getElem (by omega)] at q0
    rw [hI, List.getElem?_eq_getElem (by omega)] at q1
    rw [hS, List.getElem?_eq_getElem (by omega)] at q2
    obtain ⟨k0, hk0, _, _⟩ := DataW.trod_int Try.underlying3 q0
    obtain ⟨k1, hk1, _, hw1⟩ := DataW.trod_int Try.underlying3 q1
    obtain ⟨F, u, hu, hF, hFw⟩ := types_read n' c2 _ q2
    simp at hk0 hk1
    subst hk0; subst hk1; subst hu
    exact ⟨k0, k1, F, u, rfl, hF, hw1, hFw⟩
end Go.Proofs.Ytbdckmnppeglfaa
/- GraphNone, walked; arguments that are types. -/
namespace Go.Proofs.Ytbdckmnppeglfaa
open Go.RowKit
theorem i64_wf {n : Int} (h : (Lit.int .i64 n).wf = true) : (Lit.int .i64 n).wf = true := h
end Go.Proofs.Ytbdckmnppeglfaa
/- Arguments that are lists of types, opened. -/
namespace Go.Proofs.Ytbdckmnppeglfaa
open Go.RowKit Go.ChangeShapes Go.WideShapes Go.ChangeAt Go.Deep
set_option maxRecDepth 100000
def ArgF (W : World) (v : Value) (F : Fo) : Prop := TyV W.heap.size W F v ∧ F.wf
theorem ArgF_open {H : Type} {enc : TypeId × Value → H} {W : World} {r : Reach} {b0 : Nat} {v : Value} {d : DataW H} {p : List MemPlace} (hval : Value.okWide Try.prog W r b0 22 v)
    (h : DataW.Trod enc Try.prog W 0 (fun _ => true) true 22 v d p) : ∃ F, ArgF W v F := by
  obtain ⟨a0, len, cap, rfl⟩ := okWide_slice Try.underlying22 hval
  obtain ⟨fuel, hf⟩ := h
  obtain ⟨F, _, _, hF, hwf⟩ := types_read fuel _ _ hf
  exact ⟨F, hF, hwf⟩
end Go.Proofs.Ytbdckmnppeglfaa
/- A region that copies by appends: 'append(append([]T{}, l..), x)' in any order. Nothing here speaks of the program. -/
namespace Go.Proofs.Ytbdckmnppeglfaa
open Go.RowKit
theorem eval_put_ne {a : Act} {d t : Nat} (v : Value) (h : d ≠ t) : (a.put (some d) v).eval (.tmp t) = a.eval (.tmp t) := by
  simp only [Act.put, Act.eval, Array.getD_eq_getD_getElem?]
  rw [Array.getElem?_setIfInBounds_ne h]
theorem eval_put_same {a : Act} {d : Nat} (v : Value) (h : d < a.tmps.size) : (a.put (some d) v).eval (.tmp d) = v := by
  simp [Act.put, Act.eval, h]
theorem put_comm (a : Act) {d d' : Nat} (h : d ≠ d') (v v' : Value) : (a.put (some d) v).put (some d') v' = (a.put (some d') v').put (some d) v := by
  simp only [Act.put]
  rw [Array.setIfInBounds_comm _ _ h]
theorem put_size (a : Act) (d : Option Tmp) (v : Value) : (a.put d v).tmps.size = a.tmps.size := by
  cases d <;> simp [Act.put]
theorem wanted_none {o : Oper} (h : o.guard = none) (y : Nat → Option Bool) : Region.wanted o y = true := by simp [Region.wanted, h]
section
variable {P : Program} {ops : Array Oper} {Q : Exit → Act → World → Prop} {md : Region.Mode}
/-- An append, carried out. -/
theorem exec_append {o : Oper} {a : Act} {s x : Operand} {t : TypeId} {vs vx v' : Value} {w w' : World} (ho : o.op = .call { callee := .builtin .append, args := #[s, x], argTypes := #[t, t] }) (hs : a.eval s = vs) (hx : a.eval x = vx)
    (hrun : (Builtin.append_ #[t, t] o.type #[vs, vx]).run P w = .ok v' w') : (execOp a.eval o).run P w = .ok (.value v') w' := by
  unfold execOp
  simp only [ho, resolve, invoke, builtin, Sem.run_bind, Sem.run_pure, Result.andThen_ok, List.map_toArray, List.map_cons, List.map_nil, hs, hx, hrun]
/-- Two rows with nothing between: a copy, and one more behind. -/
theorem any_copy {W0 : World} {i0 i1 i2 i3 : Nat} {o0 o1 o2 o3 : Oper} {d0 d1 d2 d3 ts : Nat} {fuel : Nat} {listed : Array Bool} {a : Act} {w : World} {t e : TypeId} {ti : TypeInfo} {z : Value} {size bytes : Nat}
    (g0 : ops[i0]? = some o0) (g1 : ops[i1]? = some o1) (g2 : ops[i2]? = some o2) (g3 : ops[i3]? = some o3)
    (e0 : o0.dst = some d0) (e1 : o1.dst = some d1) (e2 : o2.dst = some d2) (e3 : o3.dst = some d3)
    (n0 : o0.guard = none) (n1 : o1.guard = none) (n2 : o2.guard = none) (n3 : o3.guard = none)
    (ne : i0 ≠ i1 ∧ i0 ≠ i2 ∧ i1 ≠ i2) (de : d0 ≠ d1 ∧ d0 ≠ d2 ∧ d1 ≠ d2 ∧ d0 ≠ ts ∧ d1 ≠ ts ∧ d2 ≠ ts) (hsz : d0 < a.tmps.size ∧ d1 < a.tmps.size ∧ d2 < a.tmps.size)
    (r0 : Region.ready md ops listed = [i0, i2]) (r1 : Region.ready md ops (listed.setIfInBounds i0 true) = [i1, i2]) (r2 : Region.ready md ops (listed.setIfInBounds i2 true) = [i0])
    (r3 : Region.ready md ops ((listed.setIfInBounds i0 true).setIfInBounds i1 true) = [i2]) (r4 : Region.ready md ops ((listed.setIfInBounds i0 true).setIfInBounds i2 true) = [i1])
    (r5 : Region.ready md ops (((listed.setIfInBounds i0 true).setIfInBounds i1 true).setIfInBounds i2 true) = [i3])
    (ht : P.underlying t = some (.slice e)) (hi : P.info? e = some ti) (hz : ti.zero = some z) (hs : ti.size = size) (hb : ti.bytes = bytes) (hzs : z.cells.size = size) (hpos : 0 < size)
    (x0 : ∀ (ev : Operand → Value) (w : World), (execOp ev o0).run P w = .ok (.value (.slice (some ⟨w.heap.size, 0, none⟩) 0 0)) (w.alloc (.cells #[] e)))
    (new : List Value) (hnew : new.length = 1 * size) (hno : ∀ u ∈ new, u.oneCell' = true)
    (x2 : ∀ (a' : Act), (∀ q, q ≠ d0 → q ≠ d1 → a'.eval (.tmp q) = a.eval (.tmp q)) → ∀ w : World, (execOp a'.eval o2).run P w = .ok (.value (.slice (some ⟨w.heap.size, 0, none⟩) 1 1)) (w.alloc (.cells new.toArray e)))
    (x1 : o1.op = .call { callee := .builtin .append, args := #[.tmp d0, .tmp ts], argTypes := #[t, t] }) (y1 : o1.type = t)
    (x3 : o3.op = .call { callee := .builtin .append, args := #[.tmp d1, .tmp d2], argTypes := #[t, t] }) (y3 : o3.type = t)
    {vs : Value} {n : Nat} {xs : List Value} (hev : a.eval (.tmp ts) = vs) (hR : Rd w size vs n xs) (hxo : ∀ u ∈ xs, u.oneCell' = true) (hn : n + 1 ≤ maxLen) (hby : (n + 1) * bytes ≤ 140737488355328)
    (hS : LS W0 w)
    (hk : ∀ v0 v1 v2 v3 w', LS W0 w' → Below w.heap.size w w' → w'.ownsRow w.heap.size e size v3 (n + 1) (xs ++ new) →
      wpAnyH P md ops Q (LS W0) fuel ((((listed.setIfInBounds i0 true).setIfInBounds i1 true).setIfInBounds i2 true).setIfInBounds i3 true) ((((a.put (some d0) v0).put (some d1) v1).put (some d2) v2).put (some d3) v3) w') :
    wpAnyH P md ops Q (LS W0) (fuel + 4) listed a w := by
  obtain ⟨ne1, ne2, ne3⟩ := ne
  obtain ⟨de1, de2, de3, de4, de5, de6⟩ := de
  obtain ⟨s0, s1, s2⟩ := hsz
  have hw0 := hS.size
  have lb : ∀ W, Below w.heap.size w W → LS W0 W := fun W h => Below.trans hS (h.mono hw0)
  -- the end: both rows stand
  have fin : ∀ (v0 v1 v2 : Value) (W : World), Below w.heap.size w W → W.ownsRow w.heap.size e size v1 n xs → Rd W size v2 1 new →
      wpAnyH P md ops Q (LS W0) (fuel + 1) (((listed.setIfInBounds i0 true).setIfInBounds i1 true).setIfInBounds i2 true) (((a.put (some d0) v0).put (some d1) v1).put (some d2) v2) W := by
    intro v0 v1 v2 W hB hO hX
    obtain ⟨v3, w3, hr3, ho3, hg3, -⟩ := run_append_rd (P := P) W w.heap.size t t e ti z size bytes ht hi hz hs hb hzs hpos v1 n xs hO v2 1 new hX hno hn hby hB.size
    have hb3 : Below w.heap.size w w3 := hB.grown hg3 hB.size (fun b h => (hO.lt b h).1)
    refine wpAnyH_all r5 (by simp) fun q hq => ?_
    obtain rfl : q = i3 := by simpa using hq
    refine ops_val g3 e3 (wanted_none n3 _) (exec_append x3 ?_ ?_ (by rw [y3]; exact hr3)) (lb _ hb3) (hk v0 v1 v2 v3 w3 (lb _ hb3) hb3 ho3)
    · rw [eval_put_ne _ (Ne.symm de3), eval_put_same _ (by rw [put_size]; exact s1)]
    · rw [eval_put_same _ (by rw [put_size, put_size]; exact s2)]
  have copy : ∀ (W : World), Below w.heap.size w W → ∀ v0, W.ownsRow w.heap.size e size v0 0 [] → ∃ v1 w1, (Builtin.append_ #[t, t] t #[v0, vs]).run P W = .ok v1 w1 ∧ w1.ownsRow w.heap.size e size v1 n xs ∧ W.grownBy w1 v0.ownBlock ∧ Below w.heap.size w w1 := by
    intro W hB v0 hO
    obtain ⟨v1, w1, h1, h2, h3, -⟩ := run_append_rd (P := P) W w.heap.size t t e ti z size bytes ht hi hz hs hb hzs hpos v0 0 [] hO vs n xs (hR.below hB) hxo (by omega) (by rw [Nat.zero_add]; exact Nat.le_trans (Nat.mul_le_mul_right _ (Nat.le_succ n)) hby) hB.size
    rw [Nat.zero_add, List.nil_append] at h2
    exact ⟨v1, w1, h1, h2, h3, hB.grown h3 hB.size (fun b h => (hO.lt b h).1)⟩
  have newR : ∀ W : World, Rd (W.alloc (.cells new.toArray e)) size (.slice (some ⟨W.heap.size, 0, none⟩) 1 1) 1 new := fun W => rd_new W new e size 1 hnew (by unfold maxLen; omega)
  have al : ∀ (W : World) o, Below w.heap.size w W → Below w.heap.size w (W.alloc o) := fun W o h => h.alloc h.size o
  refine wpAnyH_all r0 (by simp) fun q hq => ?_
  rcases (by simpa using hq : q = i0 ∨ q = i2) with rfl | rfl
  · have hO := own_none_yet w w.heap.size (Nat.le_refl _) e size
    have hB1 := al w (.cells #[] e) (Below.refl _ _)
    refine ops_val g0 e0 (wanted_none n0 _) (x0 _ _) (lb _ hB1) ?_
    refine wpAnyH_all r1 (by simp) fun q hq => ?_
    rcases (by simpa using hq : q = i1 ∨ q = i2) with rfl | rfl
    · obtain ⟨v1, w1, h1, h2, h3, h4⟩ := copy _ hB1 _ hO
      refine ops_val g1 e1 (wanted_none n1 _) (exec_append x1 (eval_put_same _ s0) ((eval_put_ne _ de4).trans hev) (by rw [y1]; exact h1)) (lb _ h4) ?_
      refine wpAnyH_all r3 (by simp) fun q hq => ?_
      obtain rfl : q = i2 := by simpa using hq
      refine ops_val g2 e2 (wanted_none n2 _) (x2 _ (fun q h0 h1 => by rw [eval_put_ne _ (Ne.symm h1), eval_put_ne _ (Ne.symm h0)]) _) (lb _ (al _ _ h4)) ?_
      exact fin _ _ _ _ (al _ _ h4) (h2.alloc _) (newR w1)
    · refine ops_val g2 e2 (wanted_none n2 _) (x2 _ (fun q h0 h1 => by rw [eval_put_ne _ (Ne.symm h0)]) _) (lb _ (al _ _ hB1)) ?_
      obtain ⟨v1, w1, h1, h2, h3, h4⟩ := copy _ (al _ (.cells new.toArray e) hB1) _ (hO.alloc _)
      refine wpAnyH_all r4 (by simp) fun q hq => ?_
      obtain rfl : q = i1 := by simpa using hq
      refine ops_val g1 e1 (wanted_none n1 _) (exec_append x1 ((eval_put_ne _ (Ne.symm de2)).trans (eval_put_same _ s0)) ((eval_put_ne _ de6).trans ((eval_put_ne _ de4).trans hev)) (by rw [y1]; exact h1)) (lb _ h4) ?_
      rw [Array.setIfInBounds_comm _ _ (Ne.symm ne3), put_comm _ (Ne.symm de3)]
      exact fin _ _ _ _ h4 h2 ((newR _).far (by simp) h3 (by simp [Value.ownBlock]))
  · have hB1 := al w (.cells new.toArray e) (Below.refl _ _)
    refine ops_val g2 e2 (wanted_none n2 _) (x2 _ (fun q _ _ => rfl) _) (lb _ hB1) ?_
    refine wpAnyH_all r2 (by simp) fun q hq => ?_
    obtain rfl : q = i0 := by simpa using hq
    have hO := own_none_yet (w.alloc (.cells new.toArray e)) w.heap.size (by simp) e size
    refine ops_val g0 e0 (wanted_none n0 _) (x0 _ _) (lb _ (al _ _ hB1)) ?_
    obtain ⟨v1, w1, h1, h2, h3, h4⟩ := copy _ (al _ (.cells #[] e) hB1) _ hO
    rw [Array.setIfInBounds_comm _ _ (Ne.symm ne2), put_comm _ (Ne.symm de2)]
    refine wpAnyH_all r4 (by simp) fun q hq => ?_
    obtain rfl : q = i1 := by simpa using hq
    refine ops_val g1 e1 (wanted_none n1 _) (exec_append x1 ((eval_put_ne _ (Ne.symm de2)).trans (eval_put_same _ s0)) ((eval_put_ne _ de6).trans ((eval_put_ne _ de4).trans hev)) (by rw [y1]; exact h1)) (lb _ h4) ?_
    rw [Array.setIfInBounds_comm _ _ (Ne.symm ne3), put_comm _ (Ne.symm de3)]
    refine fin _ _ _ _ h4 h2 (((newR _).alloc _).far (by simp; omega) h3 ?_)
    simp [Value.ownBlock]
end
end Go.Proofs.Ytbdckmnppeglfaa
/- The answer's graph: types, and what they are as nodes. -/
namespace Go.Proofs.Ytbdckmnppeglfaa
/-- A node of the answer's: its type, its parts. -/
abbrev Rn := Int × Int × Sl × Fo × List Nat
def rG (x : Rn) : Gn := (x.1, x.2.1, 1 + x.2.2.2.1.size, x.2.2.2.2)
def rnode (R : List Rn) (k n : Int) (u : Sl) (ps : Fo) (P : List Nat) : List Rn × Nat :=
  match (if k = 1 then gvar (R.map rG) n else none) with
  | some i => (R, i)
  | none => (R ++ [(k, n, u, ps, P)], R.length)
mutual
/-- A type's node. -/
def radd1 (R : List Rn) (k n : Int) (u : Sl) (ps : Fo) : List Rn × Nat := let r := radd R ps; rnode r.1 k n u ps r.2
/-- Those of some types. -/
def radd (R : List Rn) : Fo → List Rn × List Nat
  | .nil => (R, [])
  | .cons k n u ps r => let x := radd1 R k n u ps; let y := radd x.1 r; (y.1, x.2 :: y.2)
end
theorem radd_nil (R : List Rn) : radd R .nil = (R, []) := by simp [radd]
theorem radd_cons (R : List Rn) (k n : Int) (u : Sl) (ps r : Fo) : radd R (.cons k n u ps r) = ((radd (radd1 R k n u ps).1 r).1, (radd1 R k n u ps).2 :: (radd (radd1 R k n u ps).1 r).2) := by simp [radd]
theorem radd1_eq (R : List Rn) (k n : Int) (u : Sl) (ps : Fo) : radd1 R k n u ps = rnode (radd R ps).1 k n u ps (radd R ps).2 := by simp [radd1]
theorem rnode_G (R : List Rn) (k n : Int) (u : Sl) (ps : Fo) (P : List Nat) (hs : gsum (R.map rG) P = ps.size) : (rnode R k n u ps P).1.map rG = (gnode (R.map rG) k n P).1 ∧ (rnode R k n u ps P).2 = (gnode (R.map rG) k n P).2 := by
  unfold rnode gnode
  cases (if k = 1 then gvar (R.map rG) n else none) with
  | some i => exact ⟨rfl, rfl⟩
  | none => simp [rG, hs]
/-- It is the graph. -/
theorem radd_G (F : Fo) : ∀ R, GI (R.map rG) → Vok F → (radd R F).1.map rG = (gadd (R.map rG) F).1 ∧ (radd R F).2 = (gadd (R.map rG) F).2 := by
  induction F with
  | nil => intro R _ _; rw [radd_nil, gadd_nil]; exact ⟨rfl, rfl⟩
  | cons k n u ps r i1 i2 =>
    intro R hG hv
    obtain ⟨h1, h2, h3⟩ := hv
    obtain ⟨a1, a2⟩ := i1 R hG h2
    have g1 := gadd_ok ps (R.map rG) hG h2
    have hk : k = 1 → (gadd (R.map rG) ps).2 = [] := fun h => by rw [h1 h, gadd_nil]
    have g2 := (gnode_ok (gadd (R.map rG) ps).1 k n (gadd (R.map rG) ps).2 g1.ok hk).2.1
    obtain ⟨b1, b2⟩ := rnode_G (radd R ps).1 k n u ps (radd R ps).2 (by rw [a1, a2]; exact g1.sum)
    rw [a1, ← radd1_eq, a2, ← gadd1_eq] at b1 b2
    rw [← gadd1_eq] at g2
    obtain ⟨c1, c2⟩ := i2 (radd1 R k n u ps).1 (by rw [b1]; exact g2) h3
    rw [radd_cons, gadd_cons, ← b1, ← b2]
    exact ⟨c1, by rw [c2]⟩
end Go.Proofs.Ytbdckmnppeglfaa
