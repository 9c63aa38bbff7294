/- Texts of one proof, one behind the other. -/
import Derived.Test.YtfoangiphbmipaaMgTermOrder18
import Derived.Test.YtfoangiphbmipaaMgTermOrder13
import Derived.Test.YtfoangiphbmipaaMgTermOrder17
import Derived.Maps.Own
import Derived.Maps.Views
import Derived.Maps.OwnSet
/- types.Vars. -/
namespace Go.Proofs.Ytfoangiphbmipaa
open Go.RowKit Go.Shelf Go.Maps Go.WideShapes
attribute [local go_sem] Oper.semAt_some
attribute [local go_sem ↓] builtin_app

theorem plain_bool_inv {H : Type} {P : Program} {e : TypeId} (he : P.underlying e = some .bool) {v : Value} {z : DataW H × List MemPlace} (h : plainElem P e v = some z) : ∃ a, v = .bool a ∧ z = (.lit (.bool a), []) := by
  unfold plainElem at h
  rw [he] at h
  cases v <;> simp at h
  exact ⟨_, rfl, h.symm⟩
theorem zeroB (w : World) : (zeroValue 4).run Try.prog w = .ok (.bool false) w := by kernel_rfl
/-- A map that has numbers, each true. -/
def MapI (L : List Int) (b : Nat) (W : World) : Prop :=
  ∃ (k : Nat) (D : DataW Unit), W.ownsMap Try.prog 3 (plainElem Try.prog 4) b k D ∧ k ≤ L.length ∧ IsMap D ∧ ∀ n : Int, (Lit.int .i64 n).wf = true → D.atKey (.int .i64 n) (.lit (.bool false)) = .lit (.bool (decide (n ∈ L)))
theorem MapI.made (w : World) : MapI [] w.heap.size (w.alloc (.map #[] 0)) := ⟨0, .map [], World.ownsMap_made _ _ _ _, Nat.le_refl _, isMap_empty, fun _ _ => rfl⟩
theorem MapI.kept {L : List Int} {b : Nat} {W W' : World} {row : Option Nat} (h : MapI L b W) (hg : W.grownBy W' row) (hne : some b ≠ row) : MapI L b W' := by
  obtain ⟨k, D, h1, h2⟩ := h
  exact ⟨k, D, h1.kept hg hne, h2⟩
theorem MapI.lt {L : List Int} {b : Nat} {W : World} (h : MapI L b W) : b < W.heap.size := by obtain ⟨_, _, h1, _⟩ := h; exact h1.lt
theorem MapI.look {L : List Int} {b : Nat} {W : World} (h : MapI L b W) (n : Int) (hn : (Lit.int .i64 n).wf = true) : (Instr.lookup 71 (.map (some b)) (.int .i64 n) false).run Try.prog W = .ok (.bool (decide (n ∈ L))) W := by
  obtain ⟨k, D, h1, _, _, h3⟩ := h
  obtain ⟨v, ps, hrun, hv⟩ := h1.lookup lawI Try.underlying71 (zeroB W) (plainElem_bool Try.underlying4 false) (keyOf_int_mk Try.underlying3 hn)
  rw [h3 n hn] at hv
  obtain ⟨x, rfl, hx⟩ := plain_bool_inv Try.underlying4 hv
  simp only [Prod.mk.injEq, DataW.lit.injEq, Lit.bool.injEq] at hx
  rw [hrun, ← hx.1]
theorem MapI.put {L : List Int} {b : Nat} {W : World} (h : MapI L b W) (hl : L.length ≤ 1000000) (n : Int) (hn : (Lit.int .i64 n).wf = true) : ∃ W', (Instr.mapUpdate 71 (.map (some b)) (.int .i64 n) (.bool true)).run Try.prog W = .ok () W' ∧ MapI (L ++ [n]) b W' ∧ W.grownBy W' (some b) := by
  obtain ⟨k, D, h1, h2, hm, h3⟩ := h
  obtain ⟨w', hrun, ho, hg⟩ := h1.update lawI Try.underlying71 (by unfold maxLen; omega) (keyOf_int_mk Try.underlying3 hn) (plainElem_bool Try.underlying4 true)
  refine ⟨w', hrun, ⟨k + 1, _, ho, by simp; omega, hm.put _ _, fun m hm2 => ?_⟩, hg⟩
  by_cases e : m = n
  · subst e
    rw [atKey_put_same hm (by trivial)]
    simp
  · rw [atKey_put_other (by simpa using e), h3 m hm2]
    simp [e]
/-- Between two rounds: the variables so far, and the map that has them. -/
def VaInv (w : World) (b3 b4 bm : Nat) (pre : List Tr) (W : World) : Prop :=
  ∃ v, Boxed W b3 62 v ∧ W.ownsRow w.heap.size 3 1 v (varsL [] pre).length (ints (varsL [] pre)) ∧ Boxed W b4 71 (.map (some bm)) ∧ MapI (varsL [] pre) bm W ∧ Below w.heap.size w W
theorem VaInv.own {w : World} {b3 b4 bm B : Nat} (hB : w.heap.size ≤ B) (hbm : bm < B) : OwnFrom B (VaInv w b3 b4 bm) := by
  rintro pre W W' row ⟨v, h1, h2, h3, h4, h5⟩ hg hr
  have nb : ∀ {b : Nat} {t : TypeId} {u : Value}, Boxed W b t u → some b ≠ row := fun hb e => by
    obtain ⟨_, o, ho, hc⟩ := hr _ e.symm
    rw [show W.heap[_]? = _ from hb] at ho; cases ho; cases hc
  refine ⟨v, h1.kept hg (nb h1), h2.kept hg ?_, h3.kept hg (nb h3), h4.kept hg (fun e => by have := (hr _ e.symm).1; omega), h5.trans ((Below.refl _ _).grown hg h5.size (fun k e => by have := (hr k e).1; omega))⟩
  rcases h2.2 with ⟨rfl, _⟩ | ⟨g, cap, cur, rfl, _, hgb, _⟩
  · exact .inl rfl
  · refine .inr fun e => ?_
    obtain ⟨_, o, ho, hc⟩ := hr g e.symm
    rw [hgb] at ho; cases ho; cases hc
theorem VaInv.ab {w : World} {b3 b4 bm B : Nat} (hB : w.heap.size ≤ B) : AbC B 24 (VaInv w b3 b4 bm) := by
  rintro pre W W' ⟨v, h1, h2, h3, h4, h5⟩ hc
  have hb := hc.below hB h5.size
  refine ⟨v, hc.box (by decide) h1, ?_, hc.box (by decide) h3, ?_, h5.trans hb⟩
  · obtain ⟨row, hg, hr⟩ := hc
    refine h2.kept hg ?_
    rcases h2.2 with ⟨rfl, _⟩ | ⟨g, cap, cur, rfl, _, hgb, _⟩
    · exact .inl rfl
    · refine .inr fun e => ?_
      obtain ⟨_, cs, hcs⟩ := hr g e.symm
      rw [hgb] at hcs; injection hcs with hcs; injection hcs with _ h; exact absurd h (by decide)
  · obtain ⟨row, hg, hr⟩ := hc
    refine h4.kept hg fun e => ?_
    obtain ⟨_, cs, hcs⟩ := hr bm e.symm
    obtain ⟨_, _, ⟨es, ck, hm, _⟩, _⟩ := h4
    rw [hm] at hcs; injection hcs with hcs; cases hcs
theorem Fo.wf_pre {F : Fo} (h : F.wf) : ∀ x ∈ F.pre, (Lit.int .i64 x.2.1).wf = true := by
  induction F with
  | nil => intro x hx; cases hx
  | cons k n u ps r ih1 ih2 =>
    intro x hx
    simp only [Fo.pre, List.mem_cons, List.mem_append] at hx
    rcases hx with rfl | hx | hx
    · exact h.1
    · exact ih1 h.2.1 x hx
    · exact ih2 h.2.2 x hx
theorem own_ne_def {W : World} {base D size n : Nat} {e : TypeId} {v : Value} {xs : List Value} {ds : Option (List Deferred)} (h : W.ownsRow base e size v n xs) (hD : W.heap[D]? = some (.deferred ds)) : v.ownBlock = none ∨ v.ownBlock ≠ some D := by
  rcases h.2 with ⟨rfl, _⟩ | ⟨a, cap, cur, rfl, _, hgb, _⟩
  · exact .inl rfl
  · refine .inr fun e2 => ?_
    obtain rfl : a = D := by simpa [Value.ownBlock] using e2
    rw [hgb] at hD; cases hD
/-- A round that keeps a variable. -/
theorem va_fin (w W W1 W2 : World) (B B0 b3 b4 bm q _g : Nat) (v v' : Value) (L : List Int) (n : Int) (hB : B ≤ w.heap.size) (hb : w.heap.size ≤ b3 ∧ w.heap.size ≤ bm ∧ w.heap.size ≤ b4 ∧ b3 ≠ bm ∧ b3 ≠ b4 ∧ bm ≠ b4 ∧ b3 < B0 ∧ bm < B0 ∧ b4 < B0)
    (h1 : Boxed W b3 62 v) (h2 : W.ownsRow w.heap.size 3 1 v q (ints L)) (h3 : Boxed W b4 71 (.map (some bm))) (h4 : MapI L bm W) (h5 : Below w.heap.size w W)
    (m1 : MapI (L ++ [n]) bm W1) (g1 : W.grownBy W1 (some bm))
    (o2 : W2.ownsRow w.heap.size 3 1 v' (L ++ [n]).length (ints (L ++ [n]))) (g2 : (W1.alloc (.cells #[.int .i64 n] 3)).grownBy W2 v.ownBlock) :
    KeepsFrom B0 W (W2.setCell ⟨b3, 0, none⟩ v') ∧ KpC B W (W2.setCell ⟨b3, 0, none⟩ v') ∧ Boxed W2 b3 62 v ∧
      (Boxed (W2.setCell ⟨b3, 0, none⟩ v') b3 62 v' ∧ (W2.setCell ⟨b3, 0, none⟩ v').ownsRow w.heap.size 3 1 v' (L ++ [n]).length (ints (L ++ [n])) ∧ Boxed (W2.setCell ⟨b3, 0, none⟩ v') b4 71 (.map (some bm)) ∧ MapI (L ++ [n]) bm (W2.setCell ⟨b3, 0, none⟩ v') ∧ Below w.heap.size w (W2.setCell ⟨b3, 0, none⟩ v')) := by
  have hmp : ∃ es ck, W.heap[bm]? = some (Obj.map es ck) := by obtain ⟨_, _, ⟨es, ck, hm, _⟩, _⟩ := h4; exact ⟨es, ck, hm⟩
  obtain ⟨es, ck, hm⟩ := hmp
  have hrow : ∀ r, v.ownBlock = some r → w.heap.size ≤ r ∧ ∃ cs, W.heap[r]? = some (Obj.cells cs 3) := by
    intro r hr
    rcases h2.2 with ⟨rfl, _⟩ | ⟨a, cap, cur, rfl, ha, hgb, _⟩
    · simp [Value.ownBlock] at hr
    · obtain rfl : a = r := by simpa [Value.ownBlock] using hr
      exact ⟨ha, _, hgb⟩
  have hn3 : some b3 ≠ v.ownBlock := h1.not_row (by decide) h2
  have hn4 : some b4 ≠ v.ownBlock := h3.not_row (by decide) h2
  have hnm : some bm ≠ v.ownBlock := fun e => by
    obtain ⟨_, cs, hc⟩ := hrow bm e.symm
    rw [hm] at hc; cases hc
  have ga := World.grownBy_alloc W1 (.cells #[.int .i64 n] 3) none
  have q3 : Boxed W2 b3 62 v := ((h1.kept g1 (by simp; omega)).kept ga (by simp)).kept g2 hn3
  have q4 : Boxed W2 b4 71 (.map (some bm)) := ((h3.kept g1 (by simp; omega)).kept ga (by simp)).kept g2 hn4
  have qm : MapI (L ++ [n]) bm W2 := (m1.kept ga (by simp)).kept g2 hnm
  have gs := grownBy_setCell' W2 b3 v'
  have hs1 := g1.size
  have hs2 := g2.size
  simp only [World.size_alloc] at hs2
  have hs3 := gs.size
  have hW : ∀ j, j < W.heap.size → j ≠ bm → some j ≠ v.ownBlock → j ≠ b3 → (W2.setCell ⟨b3, 0, none⟩ v').heap[j]? = W.heap[j]? := fun j hj e1 e2 e3 =>
    (gs.block j (by omega) (by simp; omega)).trans ((g2.block j (by simp; omega) e2).trans ((ga.block j (by omega) (by simp)).trans (g1.block j hj (by simp; omega))))
  have hBel : Below w.heap.size w (W2.setCell ⟨b3, 0, none⟩ v') := by
    refine ⟨gs.os.trans (g2.os.trans (ga.os.trans (g1.os.trans h5.os))), gs.tape.trans (g2.tape.trans (ga.tape.trans (g1.tape.trans h5.tape))), gs.output.trans (g2.output.trans (ga.output.trans (g1.output.trans h5.output))), by have := h5.size; omega, fun j hj => ?_⟩
    exact (hW j (by have := h5.size; omega) (by omega) (fun e => by have := (hrow j e.symm).1; omega) (by omega)).trans (h5.block j hj)
  refine ⟨⟨by omega, fun j o hj ho hc => ?_⟩, ⟨⟨gs.os.trans (g2.os.trans (ga.os.trans g1.os)), gs.tape.trans (g2.tape.trans (ga.tape.trans g1.tape)), gs.output.trans (g2.output.trans (ga.output.trans g1.output)), by omega, fun j hj => ?_⟩, fun j cs hj => ?_⟩, q3, q3.set _, o2.kept gs (.inr (fun e => ?_)), q4.kept gs (by simp; omega), qm.kept gs (by simp; omega), hBel⟩
  · refine (hW j (Array.getElem?_eq_some_iff.1 ho).1 (by omega) (fun e => ?_) (by omega)).trans ho
    obtain ⟨_, cs, hcs⟩ := hrow j e.symm
    rw [ho] at hcs; injection hcs with hcs; subst hcs; cases hc
  · exact hW j (by have := h5.size; omega) (by omega) (fun e => by have := (hrow j e.symm).1; omega) (by omega)
  · refine (hW j (Array.getElem?_eq_some_iff.1 hj).1 (fun e => ?_) (fun e => ?_) (fun e => ?_)).trans hj
    · subst e; rw [hm] at hj; cases hj
    · obtain ⟨_, cs', hcs⟩ := hrow j e.symm
      rw [hj] at hcs; injection hcs with hcs; injection hcs with _ h; exact absurd h (by decide)
    · subst e
      rw [show W.heap[_]? = _ from h1] at hj; injection hj with hj; injection hj with _ h; exact absurd h (by decide)
  · exact q3.not_row (by decide) o2 e.symm
set_option maxRecDepth 100000 in
set_option maxHeartbeats 2000000 in
theorem vars_any (w : World) (B : Nat) (F : Fo) (vl : Value) (hB : B ≤ w.heap.size) (hF : TyV B w F vl) (hs : F.size < 100000) (hwf : F.wf) :
    Calls Try.prog 40 #[vl] w (IsInts (varsL [] F.pre) w) := by
  obtain ⟨A, c, rfl⟩ := hF.slice
  refine (callsIn_wide (n := 4)).1 ?_
  refine callsIn_of_wp_marks Try.func40 rfl trivial ?_ rfl
  simp only [Try.ntmps40, List.size_toArray, List.length_cons, List.length_nil, Nat.reduceAdd, Nat.reduceSub, Array.replicate_succ, Array.replicate_zero, List.push_toArray, List.append_toArray, List.nil_append, List.cons_append]
  have hmm := @run_makeMap Try.prog
  gi_wp2_with (refine ⟨trivial, ?_⟩; gi_at_call 45; refine (callsIn_wide.2 (all_make _ _ _ _)).mono ?_; rintro e w' ⟨rfl, rfl⟩)
  obtain ⟨w4, hw4⟩ : ∃ w4, (((w.alloc (Obj.cells #[.slice none 0 0] 62)).alloc (Obj.map #[] 0)).alloc (Obj.cells #[.map (some (w.heap.size + 1))] 71)).alloc (Obj.cells #[.slice A F.len c] 22) = w4 := ⟨_, rfl⟩
  have hs4 : w4.heap.size = w.heap.size + 4 := by rw [← hw4]; simp
  have hb4 : Below w.heap.size w w4 := by rw [← hw4]; exact ((((Below.refl _ w).alloc (Nat.le_refl _) _).alloc (by simp) _).alloc (by simp only [World.size_alloc]; omega) _).alloc (by simp only [World.size_alloc]; omega) _
  have k0 : w4.heap[w.heap.size]? = some (.cells #[.slice none 0 0] 62) := by
    rw [← hw4]
    exact (Below.heap_alloc _ _ _ (by simp only [World.size_alloc]; omega)).trans ((Below.heap_alloc _ _ _ (by simp only [World.size_alloc]; omega)).trans ((Below.heap_alloc _ _ _ (by simp only [World.size_alloc]; omega)).trans (heap_alloc_new w _)))
  have k1 : MapI [] (w.heap.size + 1) w4 := by
    have h := MapI.made (w.alloc (Obj.cells #[.slice none 0 0] 62))
    rw [World.size_alloc] at h
    rw [← hw4]
    exact (h.kept (World.grownBy_alloc _ _ none) (by simp)).kept (World.grownBy_alloc _ _ none) (by simp)
  have k2 : w4.heap[w.heap.size + 1 + 1]? = some (.cells #[.map (some (w.heap.size + 1))] 71) := by
    rw [← hw4]
    refine (Below.heap_alloc _ _ _ (by simp only [World.size_alloc]; omega)).trans ?_
    have := heap_alloc_new ((w.alloc (Obj.cells #[.slice none 0 0] 62)).alloc (Obj.map #[] 0)) (Obj.cells #[.map (some (w.heap.size + 1))] 71)
    simp only [World.size_alloc] at this
    exact this
  have k3 : Boxed w4 (w.heap.size + 1 + 1 + 1) 22 (.slice A F.len c) := by
    rw [← hw4]
    have := heap_alloc_new (((w.alloc (Obj.cells #[.slice none 0 0] 62)).alloc (Obj.map #[] 0)).alloc (Obj.cells #[.map (some (w.heap.size + 1))] 71)) (Obj.cells #[.slice A F.len c] 22)
    simp only [World.size_alloc] at this
    exact this
  have hTL : TyL B w4 F := (hF.below (hb4.mono hB)).list
  have hR4 : RdX w4.heap.size w4 (.slice A F.len c) F.top := (hF.below (hb4.mono hB)).rd.mono (by omega)
  have hlL : ∀ pre : List Tr, (∃ s, pre ++ s = F.pre) → (varsL [] pre).length ≤ 1000000 := fun pre ⟨s, h⟩ => by
    have h1 := varsL_len pre []
    have h2 := congrArg List.length h
    rw [List.length_append, Fo.pre_len] at h2
    simp at h1
    omega
  have hinv : VaInv w w.heap.size (w.heap.size + 1 + 1) (w.heap.size + 1) [] w4 := ⟨.slice none 0 0, k0, ⟨rfl, .inl ⟨rfl, rfl⟩⟩, k2, k1, hb4⟩
  rw [hw4]
  clear hw4 hmm k0 k1 k2
  refine wpIn_rangeG (by omega) (gf := 50) (lb := #[.pointer (some ⟨w.heap.size + 1 + 1 + 1, 0, none⟩)]) rfl (enters_of Try.func50 (by kernel_rfl) rfl)
    (all_seqG 3 (by omega) (w.heap.size + 1 + 1 + 1) B _ F (by omega) w4 (by omega) k3 hR4 hTL) (Below.refl _ _) KpC.t (KpC.b (by omega)) (fun _ => rfl)
    (VaInv w w.heap.size (w.heap.size + 1 + 1) (w.heap.size + 1)) (fun _ _ _ => False)
    (VaInv.own (by omega) (by omega)) (fun _ _ _ _ _ hs _ _ => hs)
    (VaInv.ab (by omega)) (fun _ _ _ _ hs _ => hs)
    hinv
    (fun x a' W => ∃ Bx, (W.cell? ⟨Bx, 0, none⟩ = some (.int .i64 x.1) ∧ W.cell? ⟨Bx, 1, none⟩ = some (.int .i64 x.2.1) ∧ W.cell? ⟨Bx, 2, none⟩ = some (slv x.2.2)) ∧ a' = { tmps := #[.slice A F.len c, undef, .slice none 0 0, .pointer (some ⟨w.heap.size, 0, none⟩), .pointer (some ⟨w.heap.size + 1 + 1, 0, none⟩), .pointer (some ⟨Bx, 0, none⟩), .map (some (w.heap.size + 1)), .slice A F.len c, .func (.func 50) #[] #[.pointer (some ⟨w.heap.size + 1 + 1 + 1, 0, none⟩)], trV x, undef, undef, undef, undef, undef, undef, undef, undef, undef, undef, undef, undef, undef, undef, undef, undef, undef, undef, undef], defers := [] })
    (fun x a' s W W' row hs hg hr => by
      obtain ⟨Bx, ⟨c0, c1, c2⟩, ha⟩ := hs
      exact ⟨Bx, ⟨cell_kept c0 hg (fun r e => (hr r e).2), cell_kept c1 hg (fun r e => (hr r e).2), cell_kept c2 hg (fun r e => (hr r e).2)⟩, ha⟩) ?assign ?body ?done ?stop
  case assign =>
    rintro l pre x W K hi hK
    obtain ⟨x0, x1, A3, n3, c3⟩ := x
    dsimp only [trV, slv] at hK ⊢
    obtain ⟨_, _, _, _, _, hb5⟩ := id hi
    have HI := Lib.hid hi
    have hsz := hb5.size
    clear hi
    gi_wp2
    exact hK _ _ ((KeepsOthers.alloc _ _).from _) (KpC.of_below ((Below.refl _ _).alloc (Nat.le_refl _) _) (by omega)) ((VaInv.own (B := w4.heap.size) (by omega) (by omega)).alloc _ HI.out) ⟨W.heap.size, ⟨by go_simp, by go_simp, by go_simp⟩, by simp⟩
  case body =>
    rintro l pre x a' W hl hi ⟨Bx, ⟨c0, c1, c2⟩, rfl⟩ ⟨srest, hsr⟩
    obtain ⟨x0, x1, A3, n3, c3⟩ := x
    dsimp only [trV, slv, tyVal] at c0 c1 c2 ⊢
    obtain ⟨v, h1, h2, h3, h4, h5⟩ := hi
    have hlx := hlL pre ⟨_, hsr⟩
    have hw1 : (Lit.int .i64 x1).wf = true := Fo.wf_pre hwf (x0, x1, A3, n3, c3) (by rw [← hsr]; simp)
    have hlk := h4.look x1 hw1
    have hva : varsL [] (pre ++ [(x0, x1, A3, n3, c3)]) = addV (varsL [] pre) (x0, x1, A3, n3, c3) := by rw [varsL_app]; rfl
    obtain ⟨L, hL⟩ : ∃ L, varsL [] pre = L := ⟨_, rfl⟩
    rw [hL] at h2 h4 hlx hlk hva
    obtain ⟨q, hq⟩ : ∃ q, L.length = q := ⟨_, rfl⟩
    rw [hq] at hlx
    obtain ⟨Av, cv, rfl, _, _⟩ := own_form h2
    rw [hq] at h1 h2
    have b4c := h3.cell
    have b3c := h1.cell
    have hbl := h5.size
    have same : addV L (x0, x1, A3, n3, c3) = L → VaInv w w.heap.size (w.heap.size + 1 + 1) (w.heap.size + 1) (pre ++ [(x0, x1, A3, n3, c3)]) W := fun e => by
      refine ⟨.slice Av q cv, h1, ?_, h3, ?_, h5⟩
      · rw [hva, e, hq]; exact h2
      · rw [hva, e]; exact h4
    have SAME := Lib.hid same
    have H1 := Lib.hid h1
    have H2 := Lib.hid h2
    have H3 := Lib.hid h3
    have H4 := Lib.hid h4
    have H5 := Lib.hid h5
    have HVA := Lib.hid hva
    have HQ := Lib.hid hq
    have HW1 := Lib.hid hw1
    clear same h1 h2 h3 h4 h5 hva hq hL hsr hw1 hR4 hTL k3 hinv hwf hlL hF
    by_cases e1 : x0 = 1
    · subst e1
      by_cases hmem : x1 ∈ L
      · rw [decide_eq_true hmem] at hlk
        have S := Lib.hid (SAME.out (by unfold addV; rw [if_neg (by simp [hmem])]))
        clear hmem
        gi_wp2
        exact ⟨KeepsFrom.refl _ _, ⟨Below.refl _ _, fun _ _ h => h⟩, S.out⟩
      · have hadd : addV L (1, x1, A3, n3, c3) = L ++ [x1] := by unfold addV; rw [if_pos ⟨rfl, hmem⟩]
        rw [decide_eq_false hmem] at hlk
        obtain ⟨W1, run1, m1, g1⟩ := H4.out.put (by rw [HQ.out]; exact hlx) x1 HW1.out
        have hmp : ∀ r, some (w.heap.size + 1) = some r → ∃ o : Obj, W.heap[r]? = some o ∧ o.isCells = false := by
          obtain ⟨_, _, ⟨es, ck, hm, _⟩, _⟩ := H4.out
          intro r e; cases e; exact ⟨_, hm, rfl⟩
        have d1 : W1.cell? ⟨Bx, 1, none⟩ = some (.int .i64 x1) := cell_kept c1 g1 hmp
        have d3 : W1.cell? ⟨w.heap.size, 0, none⟩ = some (.slice Av q cv) := cell_kept b3c g1 hmp
        have o1 : W1.ownsRow w.heap.size 3 1 (.slice Av q cv) L.length (ints L) := by
          rw [HQ.out]
          refine H2.out.kept g1 ?_
          rcases H2.out.2 with ⟨e, _⟩ | ⟨a, cap, cur, e, _, hgb, _⟩
          · rw [e]; exact .inl rfl
          · rw [e]
            refine .inr fun e2 => ?_
            obtain ⟨o, ho, hc⟩ := hmp a e2.symm
            rw [hgb] at ho; cases ho; cases hc
        have hs1 := g1.size
        obtain ⟨v2, W2, run2, o2, _, _, g2, _⟩ := app_int (W1.alloc (.cells #[.int .i64 x1] 3)) w.heap.size (.slice Av q cv) L (o1.alloc _) (.slice (some ⟨W1.heap.size, 0, none⟩) 1 1) [x1] (rd_new W1 [.int .i64 x1] _ 1 1 rfl (by unfold maxLen; omega)) (by simp [HQ.out]; omega) (by simp; omega)
        obtain ⟨gg, cg, rfl, _, _⟩ := own_shape o2 (by simp)
        obtain ⟨f1, f2, f3, f4⟩ := va_fin w W W1 W2 B w4.heap.size w.heap.size (w.heap.size + 1 + 1) (w.heap.size + 1) q 0 (.slice Av q cv) _ L x1 hB (by omega) H1.out H2.out H3.out H4.out H5.out m1 g1 o2 g2
        have z3 := f3.cell
        have z4 := f3.frozen
        have FIN := Lib.hid (And.intro f1 (And.intro f2 (show VaInv w w.heap.size (w.heap.size + 1 + 1) (w.heap.size + 1) (pre ++ [(1, x1, A3, n3, c3)]) _ from ⟨_, by rw [HVA.out, hadd]; exact f4⟩)))
        clear f1 f2 f3 f4 o1 o2 g1 g2 m1 hmem hadd hmp
        obtain ⟨q2, hq2⟩ : ∃ q2, (L ++ [x1]).length = q2 := ⟨_, rfl⟩
        rw [hq2] at run2 FIN
        clear hq2
        gi_wp2
        exact FIN.out
    · have f1 : (x0 == 1) = false := beq_eq_false_iff_ne.2 e1
      have S := Lib.hid (SAME.out (by unfold addV; rw [if_neg (by simp [e1])]))
      gi_wp2
      exact ⟨KeepsFrom.refl _ _, ⟨Below.refl _ _, fun _ _ h => h⟩, S.out⟩
  case done =>
    rintro D ys W hD rfl hi hK
    obtain ⟨v, h1, h2, h3, h4, h5⟩ := hi
    have bc := h1.cell
    have H1 := Lib.hid h1
    have H2 := Lib.hid h2
    have H5 := Lib.hid h5
    clear h1 h2 h3 h4 h5 hinv hwf hlL
    gi_wp2
    refine ⟨by simp, .inl ⟨_, _, rfl, run_takeDeferred hK, ?_⟩⟩
    have hgp := grownBy_putObj' W D (.deferred none)
    exact ⟨_, results_tmp rfl _ _ _, v, rfl, Rd.of_own (H2.out.kept hgp (own_ne_def H2.out hK)), H5.out.trans ((Below.refl _ _).grown hgp H5.out.size (fun k e => by cases e; omega))⟩
  case stop =>
    rintro D c pre W _ _ h _
    exact h.elim
end Go.Proofs.Ytfoangiphbmipaa
