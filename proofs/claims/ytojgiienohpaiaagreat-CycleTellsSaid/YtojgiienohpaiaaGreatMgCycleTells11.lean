/- Texts of one proof, one behind the other. -/
import Derived.Test.YtojgiienohpaiaaGreatMgCycleTells10
import Derived.BigRegion
import Derived.Deep.CutBlock
import Derived.Deep.DeepCutAuto
import Derived.Test.YtojgiienohpaiaaGreatMgCycleTells1
import Derived.Test.YtojgiienohpaiaaGreatMgCycleTells6
namespace Go.Proofs.YtojgiienohpaiaaGreat.Un
open Go.RowKit
set_option maxRecDepth 100000 in
set_option maxHeartbeats 1000000 in
theorem join_ge {S : Nat → Prop} {w : World} {b n : Nat} {A Z X : Value} {par sz nx col rk ro : Nat → Nat} {steps : Int} (h1 : FM S w b n A Z X par sz nx (cnt n col : Nat) steps) (h2 : UFr n par sz col rk) (h3 : Rings n nx col) (hn : n ≤ 1048576)
    (h5 : ∀ i, i < n → ro i < n ∧ par (ro i) = ro i ∧ col (ro i) = col i) (hst : 0 ≤ steps ∧ steps ≤ 10000000000000) (x y : Nat) (hx : x < n) (hy : y < n) (hro : ro x ≠ ro y) (hs : ¬ sz (ro x) < sz (ro y)) :
    Calls Tryz.prog 101 #[.pointer (some ⟨b, 0, none⟩), .int .i64 x, .int .i64 y] w (JoinPost2 S w b n col ro steps x y) := by
  have hdg := dg_le hn
  have HH := has_any h1 (x : Int)
  rw [decide_eq_true (show (0 : Int) ≤ (x : Int) ∧ (x : Int) < (n : Int) by omega)] at HH
  have HJ := has_any h1 (y : Int)
  rw [decide_eq_true (show (0 : Int) ≤ (y : Int) ∧ (y : Int) < (n : Int) by omega)] at HJ
  have HS := search_ex h1 h2 hn (by omega) h5 x hx
  clear h1 h2 h5
  have HRO := Lib.hid hro
  clear hro
  go_enter Tryz.func101, Tryz.ntmps101
  go_wp2_with fail
  refine HH.mono ?_
  rintro e w' ⟨rfl, rfl⟩
  go_wp2_with fail
  refine HJ.mono ?_
  rintro e w' ⟨rfl, rfl⟩
  go_wp2_with fail
  refine HS.mono ?_
  rintro e w2 ⟨par1, k1, rfl, hk1, h1, h2, h5, he1⟩
  have HT := search_ex h1 h2 hn (by omega) h5 y hy
  clear h1 h2 h5
  have HF := Lib.hid (And.intro hk1 he1)
  clear hk1 he1
  go_wp2_with fail
  refine HT.mono ?_
  rintro e w3 ⟨par, k2, rfl, hk2, h1, h2, h5, he2⟩
  clear HH HJ HS HT
  obtain ⟨a1, a2, a3⟩ := h5 x hx
  obtain ⟨b1, b2, b3⟩ := h5 y hy
  have hE : Else S w' w3 := HF.out.2.trans he2
  have hkk : k1 + k2 ≤ 2 * dg n := by have := HF.out.1; omega
  have HX := Lib.hid (And.intro hE (And.intro hkk (And.intro a3 b3)))
  obtain ⟨r, hr⟩ : ∃ r, ro x = r := ⟨_, rfl⟩
  obtain ⟨o, ho⟩ : ∃ o, ro y = o := ⟨_, rfl⟩
  rw [hr] at a1 a2 a3
  rw [ho] at b1 b2 b3
  have hro := HRO.out
  rw [hr, ho] at hro
  rw [hr, ho] at hs
  have HXR := Lib.hid (And.intro hr ho)
  rw [hr, ho]
  clear hr ho
  have hce : (col x == col y) = false := by
    rw [beq_eq_false_iff_ne]
    intro e
    exact hro (h2.root r o a1 b1 a2 b2 (by rw [a3, b3, e]))
  obtain ⟨c0, c1, c2, c3, c4⟩ := h1.cells
  have hl := h1.lt
  obtain ⟨ga, ca, rfl, hga, hgl⟩ := own_shape h1.ra (by omega)
  obtain ⟨gz, cz, rfl, hgz, hzl⟩ := own_shape h1.rz (by omega)
  obtain ⟨gx, cx, rfl, hgx, hxl⟩ := own_shape h1.rx (by omega)
  have z1 : w3.cell? ⟨gz, r, none⟩ = some (.int .i64 (sz r)) := (h1.rz.cellAt r (by omega)).trans (rowI_get a1)
  have z2 : w3.cell? ⟨gz, o, none⟩ = some (.int .i64 (sz o)) := (h1.rz.cellAt o (by omega)).trans (rowI_get b1)
  have p1 : w3.cell? ⟨ga, r, none⟩ = some (.int .i64 (par r : Nat)) := (h1.ra.cellAt r (by omega)).trans (rowI_get a1)
  have p2 : w3.cell? ⟨ga, o, none⟩ = some (.int .i64 (par o : Nat)) := (h1.ra.cellAt o (by omega)).trans (rowI_get b1)
  have x1 : w3.cell? ⟨gx, r, none⟩ = some (.int .i64 (nx r)) := (h1.rx.cellAt r (by omega)).trans (rowI_get a1)
  have x2 : w3.cell? ⟨gx, o, none⟩ = some (.int .i64 (nx o)) := (h1.rx.cellAt o (by omega)).trans (rowI_get b1)
  have n1 : ga ≠ b := fun e => row_ne h1.ra h1.blk (by decide) (by rw [e]; rfl)
  have n2 : gz ≠ b := fun e => row_ne h1.rz h1.blk (by decide) (by rw [e]; rfl)
  have n3 : gx ≠ b := fun e => row_ne h1.rx h1.blk (by decide) (by rw [e]; rfl)
  have n4 : gz ≠ ga := fun e => (h1.sa ga rfl).2.1 (by rw [e]; rfl)
  have n5 : gx ≠ ga := fun e => (h1.sa ga rfl).2.2 (by rw [e]; rfl)
  have n6 : gx ≠ gz := fun e => (h1.sz_ gz rfl).2 (by rw [e]; rfl)
  have y1 : w3.frozen? ⟨b, 3, none⟩ = false := h1.frozen 3
  have y2 : w3.frozen? ⟨ga, o, none⟩ = false := h1.ra.frozenAt o
  have y3 : w3.frozen? ⟨ga, r, none⟩ = false := h1.ra.frozenAt r
  have y4 : w3.frozen? ⟨gz, o, none⟩ = false := h1.rz.frozenAt o
  have y5 : w3.frozen? ⟨gz, r, none⟩ = false := h1.rz.frozenAt r
  have y6 : w3.frozen? ⟨gx, o, none⟩ = false := h1.rx.frozenAt o
  have y7 : w3.frozen? ⟨gx, r, none⟩ = false := h1.rx.frozenAt r
  have sr : sz r ≤ 1048576 := by rw [h2.size r a1 a2]; have := cls_le n col r; omega
  have so : sz o ≤ 1048576 := by rw [h2.size o b1 b2]; have := cls_le n col o; omega
  have f6 : decide ((sz r : Int) < (sz o : Int)) = false := decide_eq_false (by omega)
  have hle : sz o ≤ sz r := by omega
  have HALL := Lib.hid (And.intro h2 (And.intro h3 (And.intro h5 (And.intro hce (And.intro a2 (And.intro b2 (And.intro a3 (And.intro b3 hle))))))))
  have HFM := Lib.hid h1
  have hct := cnt_le n col
  obtain ⟨ct, hcte⟩ : ∃ ct, cnt n col = ct := ⟨_, rfl⟩
  rw [hcte] at c3 hct
  have HCT := Lib.hid hcte
  clear h1 h2 h3 h5 hce a2 b2 a3 b3 hle hE hkk hk2 he2 hcte
  go_wp2_with fail
  go_region
  go_upto_region 9 with fail
  refine wp_world (fun V => FM S V b n (.slice (some ⟨ga, 0, none⟩) n ca) (.slice (some ⟨gz, 0, none⟩) n cz) (.slice (some ⟨gx, 0, none⟩) n cx) (upd par o r) sz nx (cnt n col : Nat) (steps + k1 + k2) ∧ Else S w3 V) ⟨(HFM.out.setA o r).drew, (Else.set w3 (p := ⟨ga, o, none⟩) (HFM.out.sa ga rfl).1 _).drew⟩ ?_
  rintro V ⟨g1, gE1⟩
  clear z1 z2 p1 p2 x1 x2 y1 y2 y3 y4 y5 y6 y7 c0 c1 c2 c3 c4 hl hgl hzl hxl
  have c1 := g1.cells.2.1
  have hl := g1.lt
  have z1 : V.cell? ⟨gz, o, none⟩ = some (.int .i64 (sz o)) := (g1.rz.cellAt o (by omega)).trans (rowI_get b1)
  have z2 : V.cell? ⟨gz, r, none⟩ = some (.int .i64 (sz r)) := (g1.rz.cellAt r (by omega)).trans (rowI_get a1)
  have y5 : V.frozen? ⟨gz, r, none⟩ = false := g1.rz.frozenAt r
  have G1 := Lib.hid (And.intro g1 gE1)
  clear g1 gE1
  go_region
  go_upto_region 10 with fail
  refine wp_world (fun V' => FM S V' b n (.slice (some ⟨ga, 0, none⟩) n ca) (.slice (some ⟨gz, 0, none⟩) n cz) (.slice (some ⟨gx, 0, none⟩) n cx) (upd par o r) (upd sz r (sz r + sz o)) nx (cnt n col : Nat) (steps + k1 + k2) ∧ Else S w3 V') ?_ ?_
  · rw [← Int.natCast_add]
    exact ⟨(G1.out.1.setZ r (sz r + sz o)).drew, (G1.out.2.trans (Else.set V (p := ⟨gz, r, none⟩) (G1.out.1.sz_ gz rfl).1 _)).drew⟩
  rintro V' ⟨g1, gE1⟩
  clear z1 z2 y5 c1 hl
  have c2 := g1.cells.2.2.1
  have hl := g1.lt
  have x1 : V'.cell? ⟨gx, o, none⟩ = some (.int .i64 (nx o)) := (g1.rx.cellAt o (by omega)).trans (rowI_get b1)
  have x2 : V'.cell? ⟨gx, r, none⟩ = some (.int .i64 (nx r)) := (g1.rx.cellAt r (by omega)).trans (rowI_get a1)
  have y6 : V'.frozen? ⟨gx, r, none⟩ = false := g1.rx.frozenAt r
  have y7 : V'.frozen? ⟨gx, o, none⟩ = false := g1.rx.frozenAt o
  have c3 := g1.cells.2.2.2.1
  rw [HCT.out] at c3
  have y1 : V'.frozen? ⟨b, 3, none⟩ = false := g1.frozen 3
  have G2 := Lib.hid (And.intro g1 gE1)
  clear g1 gE1 G1
  go_region
  go_wp2_with fail
  go_ret2
  obtain ⟨h2, h3, h5, hce, a2, b2, a3, b3, hle⟩ := HALL.out
  obtain ⟨g1, gE1⟩ := G2.out
  have g2 := (((g1.setX r (nx o)).setX o (nx r)).set3 ((cnt n col : Nat) - 1)).drew
  rw [HCT.out] at g2
  refine ⟨r, k1 + k2, fun i => if paint col x y i = paint col x y r then r else ro i, by rw [hce]; rfl, a1, fun _ _ => rfl, .inl a3, HX.out.2.1, ?_, HX.out.1.trans (gE1.trans ?_)⟩
  · rw [show steps + ((k1 + k2 : Nat) : Int) = steps + k1 + k2 by omega]
    exact join_fin h2 h3 hn h5 a1 b1 a2 b2 hro hle (.inl ⟨a3, b3⟩) (by rw [HCT.out]; exact g2)
  · exact (((Else.set V' (p := ⟨gx, r, none⟩) (g1.sx gx rfl) _).trans (Else.set _ (p := ⟨gx, o, none⟩) (g1.sx gx rfl) _)).trans (Else.set _ (p := ⟨b, 3, none⟩) g1.sb _)).drew
end Go.Proofs.YtojgiienohpaiaaGreat.Un
namespace Go.Proofs.YtojgiienohpaiaaGreat.Un
open Go.RowKit
theorem join_in2 {S : Nat → Prop} {w : World} {b n : Nat} {col ro : Nat → Nat} {steps : Int} (h : UFo S w b n col ro steps) (hst : 0 ≤ steps ∧ steps ≤ 10000000000000) (x y : Nat) (hx : x < n) (hy : y < n) :
    Calls Tryz.prog 101 #[.pointer (some ⟨b, 0, none⟩), .int .i64 x, .int .i64 y] w (JoinPost2 S w b n col ro steps x y) := by
  obtain ⟨A, Z, X, par, sz, nx, rk, h1, h2, h3, h4, h5⟩ := h
  by_cases hro : ro x = ro y
  · exact join_eq h1 h2 h3 h4 h5 hst x y hx hy hro
  · by_cases hs : sz (ro x) < sz (ro y)
    · exact join_lt h1 h2 h3 h4 h5 hst x y hx hy hro hs
    · exact join_ge h1 h2 h3 h4 h5 hst x y hx hy hro hs
end Go.Proofs.YtojgiienohpaiaaGreat.Un
namespace Go.Proofs.YtojgiienohpaiaaGreat.Un
open Go.RowKit
attribute [local go_sem] Oper.semAt_some

def app_ (ats : Array Go.TypeId) (ty : Go.TypeId) (args : Array Value) : Sem Value := Builtin.append_ ats ty args
theorem builtin_app (b : Builtin) (ats : Array Go.TypeId) (ty : Go.TypeId) (cs : Array Bool) (args : Array Value) (hb : b = .append) : builtin b ats ty cs args = (do pure (.value (← app_ ats ty args))) := by subst hb; rfl
attribute [local go_sem ↓] builtin_app
theorem intInfo : (Tryz.prog.info? 3).map (fun i => (i.zero, i.size, i.bytes)) = some (some (.int .i64 0), 1, 8) := by kernel_rfl
theorem info_parts {o : Option TypeInfo} {z : Option Value} {a b : Nat} (h : o.map (fun i => (i.zero, i.size, i.bytes)) = some (z, a, b)) : ∃ i, o = some i ∧ i.zero = z ∧ i.size = a ∧ i.bytes = b := by
  cases o with
  | none => cases h
  | some i => simp only [Option.map_some, Option.some.injEq, Prod.mk.injEq] at h; exact ⟨i, rfl, h.1, h.2.1, h.2.2⟩
theorem own_form {w : World} {base : Nat} {e : TypeId} {size : Nat} {v : Value} {n : Nat} {xs : List Value} (h : w.ownsRow base e size v n xs) : ∃ A c, v = .slice A n c ∧ n ≤ c ∧ c ≤ maxLen := by
  rcases h.2 with ⟨rfl, rfl⟩ | ⟨g, cap, cur, rfl, hb, hg, hnc, hcm, _⟩
  · exact ⟨_, _, rfl, Nat.le_refl _, by unfold maxLen; omega⟩
  · exact ⟨_, _, rfl, hnc, hcm⟩
theorem app_int (w : World) (v : Value) (n : Nat) (xs : List Value) (hown : w.ownsRow 0 3 1 v n xs) (x : Int) (hn : n ≤ 10000000) :
    ∃ g cp w1, (app_ #[30, 30] 30 #[v, .slice (some ⟨w.heap.size, 0, none⟩) 1 1]).run Tryz.prog (w.alloc (.cells #[.int .i64 x] 3)) = .ok (.slice (some ⟨g, 0, none⟩) (n + 1) cp) w1 ∧
      w1.ownsRow 0 3 1 (.slice (some ⟨g, 0, none⟩) (n + 1) cp) (n + 1) (xs ++ [.int .i64 x]) ∧ (w.alloc (.cells #[.int .i64 x] 3)).grownBy w1 v.ownBlock ∧ (v.ownBlock = some g ∨ g = w.heap.size + 1) := by
  obtain ⟨i0, hi0, hz0, hz1, hz2⟩ := info_parts intInfo
  have own1 := hown.alloc (.cells #[.int .i64 x] 3)
  have rd1 : Rd (w.alloc (.cells #[.int .i64 x] 3)) 1 (.slice (some ⟨w.heap.size, 0, none⟩) 1 1) 1 [.int .i64 x] := rd_new w [.int .i64 x] 3 1 1 rfl (by unfold maxLen; omega)
  obtain ⟨v', w1, hrun, hown1, hg1, hat⟩ := run_append_rd (P := Tryz.prog) _ 0 30 30 3 i0 _ 1 8 Tryz.underlying30 hi0 hz0 hz1 hz2 rfl (by omega) v _ _ own1 _ 1 _ rd1 (by simp [Value.oneCell']) (by unfold maxLen; omega) (by omega) (by omega)
  obtain ⟨g, cp, rfl, _, _⟩ := own_shape hown1 (by omega)
  refine ⟨g, cp, w1, hrun, hown1, hg1, ?_⟩
  rcases hat with e | e
  · exact .inl e.symm
  · right
    have e : some g = some (w.heap.size + 1) := by rw [← World.size_alloc w (.cells #[.int .i64 x] 3)]; exact e
    injection e
theorem row_stays {w w1 : World} {v u : Value} {n m : Nat} {xs ys : List Value} {o : Obj} {x : Value} {b off : Nat} (h : w.ownsRow 0 3 1 v n xs) (_hu : w.ownsRow 0 3 1 u m ys) (hg : (w.alloc o).grownBy w1 u.ownBlock) (hne : ∀ k, v.ownBlock = some k → u.ownBlock ≠ some k) (hb : v.ownBlock ≠ some b) : (w1.setCell ⟨b, off, none⟩ x).ownsRow 0 3 1 v n xs := by
  refine ownsRow_setCell_other ((h.alloc o).kept hg ?_) hb x
  cases e : v.ownBlock with
  | none => exact .inl rfl
  | some k => exact .inr (fun e2 => hne k e e2.symm)
structure FG (S : Nat → Prop) (w : World) (b : Nat) (A Z X : Value) (nA nZ nX : Nat) (LA LZ LX : List Value) (sets steps : Int) : Prop where
  blk : w.heap[b]? = some (Obj.cells #[A, Z, X, .int .i64 sets, .int .i64 steps] 153)
  sb : S b
  ra : w.ownsRow 0 3 1 A nA LA
  rz : w.ownsRow 0 3 1 Z nZ LZ
  rx : w.ownsRow 0 3 1 X nX LX
  sa : ∀ k, A.ownBlock = some k → S k ∧ Z.ownBlock ≠ some k ∧ X.ownBlock ≠ some k
  sz_ : ∀ k, Z.ownBlock = some k → S k ∧ X.ownBlock ≠ some k
  sx : ∀ k, X.ownBlock = some k → S k
section
variable {S : Nat → Prop} {w w1 : World} {b g cp : Nat} {A Z X : Value} {nA nZ nX : Nat} {LA LZ LX : List Value} {sets steps x : Int}
theorem FG.blk1 (h : FG S w b A Z X nA nZ nX LA LZ LX sets steps) {v : Value} {n : Nat} {xs : List Value} (hv : w.ownsRow 0 3 1 v n xs) {o : Obj} (hg : (w.alloc o).grownBy w1 v.ownBlock) : w1.heap[b]? = some (Obj.cells #[A, Z, X, .int .i64 sets, .int .i64 steps] 153) := by
  have hl := (Array.getElem?_eq_some_iff.1 h.blk).1
  refine (hg.block b (by rw [World.size_alloc]; omega) (fun e => row_ne hv h.blk (by decide) e.symm)).trans ((Below.heap_alloc _ _ _ hl).trans h.blk)
theorem far_of {v : Value} {u : Value} {m n : Nat} {xs ys : List Value} (hu : w.ownsRow 0 3 1 u m ys) (_hv : w.ownsRow 0 3 1 v n xs) (hat : v.ownBlock = some g ∨ g = w.heap.size + 1) (hne : ∀ k, v.ownBlock = some k → u.ownBlock ≠ some k) : u.ownBlock ≠ some g := by
  rcases hat with e | e
  · exact hne g e
  · intro e2
    have := (hu.lt g e2).2
    omega
theorem Else.grown1 {S : Nat → Prop} {w w1 : World} {o : Obj} {row : Option Nat} (hg : (w.alloc o).grownBy w1 row) (hr : ∀ k, row = some k → S k) : Else S w w1 :=
  (Else.alloc S w o).trans (Else.grown hg hr)
theorem FG.app0 (h : FG S w b A Z X nA nZ nX LA LZ LX sets steps) (ho : w1.ownsRow 0 3 1 (.slice (some ⟨g, 0, none⟩) (nA + 1) cp) (nA + 1) (LA ++ [.int .i64 x])) {o : Obj} (hg : (w.alloc o).grownBy w1 A.ownBlock) (hat : A.ownBlock = some g ∨ g = w.heap.size + 1) :
    FG (fun k => S k ∨ w.heap.size ≤ k) (w1.setCell ⟨b, 0, none⟩ (.slice (some ⟨g, 0, none⟩) (nA + 1) cp)) b (.slice (some ⟨g, 0, none⟩) (nA + 1) cp) Z X (nA + 1) nZ nX (LA ++ [.int .i64 x]) LZ LX sets steps ∧ Else S w (w1.setCell ⟨b, 0, none⟩ (.slice (some ⟨g, 0, none⟩) (nA + 1) cp)) := by
  have hb1 := h.blk1 h.ra hg
  have fz := far_of h.rz h.ra hat fun k hk => (h.sa k hk).2.1
  have fx := far_of h.rx h.ra hat fun k hk => (h.sa k hk).2.2
  refine ⟨⟨heap_setCell_same w1 b 0 _ _ _ hb1, .inl h.sb, ownsRow_setCell_other ho (row_ne ho hb1 (by decide)) _, row_stays h.rz h.ra hg (fun k hk e => (h.sa k e).2.1 hk) (row_ne h.rz h.blk (by decide)), row_stays h.rx h.ra hg (fun k hk e => (h.sa k e).2.2 hk) (row_ne h.rx h.blk (by decide)), ?_, fun k hk => ⟨.inl (h.sz_ k hk).1, (h.sz_ k hk).2⟩, fun k hk => .inl (h.sx k hk)⟩, ?_⟩
  · intro k hk
    have hk : some g = some k := hk
    injection hk with hk
    subst hk
    refine ⟨?_, fz, fx⟩
    rcases hat with e | e
    · exact .inl (h.sa g e).1
    · exact .inr (by omega)
  · exact (Else.grown1 hg fun k hk => (h.sa k hk).1).trans (Else.set w1 (p := ⟨b, 0, none⟩) h.sb _)
theorem FG.app1 (h : FG S w b A Z X nA nZ nX LA LZ LX sets steps) (ho : w1.ownsRow 0 3 1 (.slice (some ⟨g, 0, none⟩) (nZ + 1) cp) (nZ + 1) (LZ ++ [.int .i64 x])) {o : Obj} (hg : (w.alloc o).grownBy w1 Z.ownBlock) (hat : Z.ownBlock = some g ∨ g = w.heap.size + 1) :
    FG (fun k => S k ∨ w.heap.size ≤ k) (w1.setCell ⟨b, 1, none⟩ (.slice (some ⟨g, 0, none⟩) (nZ + 1) cp)) b A (.slice (some ⟨g, 0, none⟩) (nZ + 1) cp) X nA (nZ + 1) nX LA (LZ ++ [.int .i64 x]) LX sets steps ∧ Else S w (w1.setCell ⟨b, 1, none⟩ (.slice (some ⟨g, 0, none⟩) (nZ + 1) cp)) := by
  have hb1 := h.blk1 h.rz hg
  have fa := far_of h.ra h.rz hat fun k hk e => (h.sa k e).2.1 hk
  have fx := far_of h.rx h.rz hat fun k hk => (h.sz_ k hk).2
  refine ⟨⟨heap_setCell_same w1 b 1 _ _ _ hb1, .inl h.sb, row_stays h.ra h.rz hg (fun k hk => (h.sa k hk).2.1) (row_ne h.ra h.blk (by decide)), ownsRow_setCell_other ho (row_ne ho hb1 (by decide)) _, row_stays h.rx h.rz hg (fun k hk e => (h.sz_ k e).2 hk) (row_ne h.rx h.blk (by decide)), fun k hk => ⟨.inl (h.sa k hk).1, fun e => fa (by rw [hk]; exact e.symm), (h.sa k hk).2.2⟩, ?_, fun k hk => .inl (h.sx k hk)⟩, ?_⟩
  · intro k hk
    have hk : some g = some k := hk
    injection hk with hk
    subst hk
    refine ⟨?_, fx⟩
    rcases hat with e | e
    · exact .inl (h.sz_ g e).1
    · exact .inr (by omega)
  · exact (Else.grown1 hg fun k hk => (h.sz_ k hk).1).trans (Else.set w1 (p := ⟨b, 1, none⟩) h.sb _)
theorem FG.app2 (h : FG S w b A Z X nA nZ nX LA LZ LX sets steps) (ho : w1.ownsRow 0 3 1 (.slice (some ⟨g, 0, none⟩) (nX + 1) cp) (nX + 1) (LX ++ [.int .i64 x])) {o : Obj} (hg : (w.alloc o).grownBy w1 X.ownBlock) (hat : X.ownBlock = some g ∨ g = w.heap.size + 1) :
    FG (fun k => S k ∨ w.heap.size ≤ k) (w1.setCell ⟨b, 2, none⟩ (.slice (some ⟨g, 0, none⟩) (nX + 1) cp)) b A Z (.slice (some ⟨g, 0, none⟩) (nX + 1) cp) nA nZ (nX + 1) LA LZ (LX ++ [.int .i64 x]) sets steps ∧ Else S w (w1.setCell ⟨b, 2, none⟩ (.slice (some ⟨g, 0, none⟩) (nX + 1) cp)) := by
  have hb1 := h.blk1 h.rx hg
  have fa := far_of h.ra h.rx hat fun k hk e => (h.sa k e).2.2 hk
  have fz := far_of h.rz h.rx hat fun k hk e => (h.sz_ k e).2 hk
  refine ⟨⟨heap_setCell_same w1 b 2 _ _ _ hb1, .inl h.sb, row_stays h.ra h.rx hg (fun k hk => (h.sa k hk).2.2) (row_ne h.ra h.blk (by decide)), row_stays h.rz h.rx hg (fun k hk => (h.sz_ k hk).2) (row_ne h.rz h.blk (by decide)), ownsRow_setCell_other ho (row_ne ho hb1 (by decide)) _, fun k hk => ⟨.inl (h.sa k hk).1, (h.sa k hk).2.1, fun e => fa (by rw [hk]; exact e.symm)⟩, fun k hk => ⟨.inl (h.sz_ k hk).1, fun e => fz (by rw [hk]; exact e.symm)⟩, ?_⟩, ?_⟩
  · intro k hk
    have hk : some g = some k := hk
    injection hk with hk
    subst hk
    rcases hat with e | e
    · exact .inl (h.sx g e)
    · exact .inr (by omega)
  · exact (Else.grown1 hg fun k hk => h.sx k hk).trans (Else.set w1 (p := ⟨b, 2, none⟩) h.sb _)
end
theorem FM.fg {S : Nat → Prop} {w : World} {b n : Nat} {A Z X : Value} {par sz nx : Nat → Nat} {sets steps : Int} (h : FM S w b n A Z X par sz nx sets steps) : FG S w b A Z X n n n (rowI n par) (rowI n sz) (rowI n nx) sets steps :=
  ⟨h.blk, h.sb, h.ra, h.rz, h.rx, h.sa, h.sz_, h.sx⟩
theorem rowI_upd (n v : Nat) (f : Nat → Nat) : rowI (n + 1) (upd f n v) = rowI n f ++ [.int .i64 (v : Int)] := by
  rw [rowI_snoc, upd_same, rowI_congr (f := upd f n v) (g := f) fun k hk => upd_other _ _ (by omega)]
set_option maxRecDepth 100000 in
set_option maxHeartbeats 1000000 in
theorem add_fm {S : Nat → Prop} {w : World} {b n : Nat} {A Z X : Value} {par sz nx : Nat → Nat} {sets steps : Int} (h : FM S w b n A Z X par sz nx sets steps) (hn : n < 1048576) (hst : 0 ≤ sets ∧ sets ≤ 1048576) :
    Calls Tryz.prog 90 #[.pointer (some ⟨b, 0, none⟩)] w fun e w' => e = .returned (.int .i64 (n : Nat)) ∧ (∃ A' Z' X', FM (fun k => S k ∨ w.heap.size ≤ k) w' b (n + 1) A' Z' X' (upd par n n) (upd sz n 1) (upd nx n n) (sets + 1) steps) ∧ Else S w w' := by
  have H := Lib.hid h
  have c0 := h.cells.1
  have hl := h.lt
  have hz := h.frozen 0
  obtain ⟨Aa, ca, rfl, _, _⟩ := own_form h.ra
  obtain ⟨Za, cz, rfl, _, _⟩ := own_form h.rz
  obtain ⟨Xa, cx, rfl, _, _⟩ := own_form h.rx
  obtain ⟨g1, p1, w1, r1, o1, gr1, at1⟩ := app_int w _ n _ h.ra n (by omega)
  obtain ⟨F1, E1⟩ := h.fg.app0 o1 gr1 at1
  have hb1 := h.fg.blk1 h.ra gr1
  have hl1 := (Array.getElem?_eq_some_iff.1 hb1).1
  have hz1 : w1.frozen? ⟨b, 0, none⟩ = false := by simp [World.frozen?, hb1]
  have d0 : w1.cell? ⟨b, 0, none⟩ = some (.slice Aa n ca) := cell_of_row w1 b 0 _ _ _ hb1
  have f1 : ((n : Int) == 1048576) = false := by simp; omega
  have HN := Lib.hid (And.intro F1 E1)
  clear h F1 E1 o1 gr1 at1 hb1
  go_enter Tryz.func90, Tryz.ntmps90
  go_upto_region 5 with fail
  refine wp_world (fun V => FG (fun k => S k ∨ w.heap.size ≤ k) V b (.slice (some ⟨g1, 0, none⟩) (n + 1) p1) (.slice Za n cz) (.slice Xa n cx) (n + 1) n n (rowI n par ++ [.int .i64 (n : Nat)]) (rowI n sz) (rowI n nx) sets steps ∧ Else S w V) HN.out ?_
  rintro V ⟨F1, E1⟩
  clear c0 hl hz r1 hl1 hz1 d0 f1
  have c0 : V.cell? ⟨b, 1, none⟩ = some (.slice Za n cz) := cell_of_row V b 1 _ _ _ F1.blk
  have hl := (Array.getElem?_eq_some_iff.1 F1.blk).1
  obtain ⟨g2, p2, w2, r2, o2, gr2, at2⟩ := app_int V _ n _ F1.rz 1 (by omega)
  obtain ⟨F2, E2⟩ := F1.app1 o2 gr2 at2
  have hb2 := F1.blk1 F1.rz gr2
  have hl2 := (Array.getElem?_eq_some_iff.1 hb2).1
  have hz2 : w2.frozen? ⟨b, 1, none⟩ = false := by simp [World.frozen?, hb2]
  have d1 : w2.cell? ⟨b, 1, none⟩ = some (.slice Za n cz) := cell_of_row w2 b 1 _ _ _ hb2
  have HN2 := Lib.hid (And.intro E1 (And.intro F2 E2))
  have hVs := E1.size
  clear F1 E1 o2 gr2 at2 hb2 F2 E2 HN
  go_upto_region 6 with fail
  refine wp_world (fun V' => FG (fun k => (S k ∨ w.heap.size ≤ k) ∨ V.heap.size ≤ k) V' b (.slice (some ⟨g1, 0, none⟩) (n + 1) p1) (.slice (some ⟨g2, 0, none⟩) (n + 1) p2) (.slice Xa n cx) (n + 1) (n + 1) n (rowI n par ++ [.int .i64 (n : Nat)]) (rowI n sz ++ [.int .i64 1]) (rowI n nx) sets steps ∧ Else (fun k => S k ∨ w.heap.size ≤ k) w V')
    ⟨HN2.out.2.1, (HN2.out.1.mono fun k hk => .inl hk).trans HN2.out.2.2⟩ ?_
  rintro V' ⟨F2, E2⟩
  clear c0 hl r2 hl2 hz2 d1 HN2
  have c0 : V'.cell? ⟨b, 2, none⟩ = some (.slice Xa n cx) := cell_of_row V' b 2 _ _ _ F2.blk
  have hl := (Array.getElem?_eq_some_iff.1 F2.blk).1
  obtain ⟨g3, p3, w3, r3, o3, gr3, at3⟩ := app_int V' _ n _ F2.rx n (by omega)
  obtain ⟨F3, E3⟩ := F2.app2 o3 gr3 at3
  have hb3 := F2.blk1 F2.rx gr3
  have hl3 := (Array.getElem?_eq_some_iff.1 hb3).1
  have hz3 : w3.frozen? ⟨b, 2, none⟩ = false := by simp [World.frozen?, hb3]
  have d2 : w3.cell? ⟨b, 2, none⟩ = some (.slice Xa n cx) := cell_of_row w3 b 2 _ _ _ hb3
  have d3 : w3.cell? ⟨b, 3, none⟩ = some (.int .i64 sets) := cell_of_row w3 b 3 _ _ _ hb3
  have hz4 : w3.frozen? ⟨b, 3, none⟩ = false := by simp [World.frozen?, hb3]
  have HN3 := Lib.hid (And.intro E2 (And.intro F3 E3))
  have hVs' := E2.size
  clear F2 E2 o3 gr3 at3 hb3 F3 E3
  go_wp2_with fail
  go_ret
  obtain ⟨E2, F3, E3⟩ := HN3.out
  have hsub : ∀ k, ((((S k ∨ w.heap.size ≤ k) ∨ V.heap.size ≤ k) ∨ V'.heap.size ≤ k) → (S k ∨ w.heap.size ≤ k)) := by
    rintro k (((h | h) | h) | h)
    · exact .inl h
    · exact .inr h
    · exact .inr (by omega)
    · exact .inr (by omega)
  have hblk := heap_setCell_same _ b 3 _ _ (.int .i64 (sets + 1)) F3.blk
  have hE : Else (fun k => S k ∨ w.heap.size ≤ k) w ((w3.setCell ⟨b, 2, none⟩ (.slice (some ⟨g3, 0, none⟩) (n + 1) p3)).setCell ⟨b, 3, none⟩ (.int .i64 (sets + 1))) :=
    (E2.trans (E3.mono fun k hk => hsub k (.inl hk))).trans (Else.set _ (p := ⟨b, 3, none⟩) (hsub b F3.sb) _)
  refine ⟨rfl, ⟨.slice (some ⟨g1, 0, none⟩) (n + 1) p1, .slice (some ⟨g2, 0, none⟩) (n + 1) p2, .slice (some ⟨g3, 0, none⟩) (n + 1) p3, ⟨hblk, hsub b F3.sb, ?_, ?_, ?_, fun k hk => ⟨hsub k (F3.sa k hk).1, (F3.sa k hk).2⟩, fun k hk => ⟨hsub k (F3.sz_ k hk).1, (F3.sz_ k hk).2⟩, fun k hk => hsub k (F3.sx k hk)⟩⟩, ⟨hE.os, hE.tape, hE.output, hE.size, fun k hk hs => hE.block k hk fun hx => by rcases hx with hx | hx; exact hs hx; omega⟩⟩
  · rw [rowI_upd]; exact ownsRow_setCell_other F3.ra (row_ne F3.ra F3.blk (by decide)) _
  · rw [rowI_upd]; exact ownsRow_setCell_other F3.rz (row_ne F3.rz F3.blk (by decide)) _
  · rw [rowI_upd]; exact ownsRow_setCell_other F3.rx (row_ne F3.rx F3.blk (by decide)) _
theorem UFr.add {n : Nat} {par sz col rk : Nat → Nat} (h : UFr n par sz col rk) (c : Nat) (hc : ∀ k, k < n → col k ≠ c) : UFr (n + 1) (upd par n n) (upd sz n 1) (upd col n c) (upd rk n 0) := by
  have old : ∀ k, k < n → upd par n n k = par k ∧ upd sz n 1 k = sz k ∧ upd col n c k = col k ∧ upd rk n 0 k = rk k := fun k hk => ⟨upd_other _ _ (by omega), upd_other _ _ (by omega), upd_other _ _ (by omega), upd_other _ _ (by omega)⟩
  have cl : ∀ k, k < n → cls (n + 1) (upd col n c) k = cls n col k := by
    intro k hk
    unfold cls
    rw [List.range_succ, List.countP_append, (old k hk).2.2.1]
    have e1 : (List.range n).countP (fun j => upd col n c j == col k) = (List.range n).countP (fun j => col j == col k) := by
      apply List.countP_congr
      intro j hj
      rw [(old j (List.mem_range.1 hj)).2.2.1]
    have e2 : [n].countP (fun j => upd col n c j == col k) = 0 := by
      simp [upd_same, Ne.symm (hc k hk)]
    rw [e1, e2, Nat.add_zero]
  have cn : cls (n + 1) (upd col n c) n = 1 := by
    unfold cls
    rw [List.range_succ, List.countP_append, upd_same]
    have e1 : (List.range n).countP (fun j => upd col n c j == c) = 0 := by
      rw [List.countP_eq_zero]
      intro j hj
      rw [(old j (List.mem_range.1 hj)).2.2.1]
      simp [hc j (List.mem_range.1 hj)]
    rw [e1]; simp [upd_same]
  have cases_ : ∀ i, i < n + 1 → i < n ∨ i = n := fun i hi => by omega
  refine ⟨fun i hi => ?_, fun i hi => ?_, fun i j hi hj pi pj e => ?_, fun i hi hp => ?_, fun i hi hp => ?_, fun i hi => ?_, fun i hi hp => ?_⟩
  · rcases cases_ i hi with h1 | rfl
    · rw [(old i h1).1]; have := h.lt i h1; omega
    · rw [upd_same]; omega
  · rcases cases_ i hi with h1 | rfl
    · rw [(old i h1).1, (old _ (h.lt i h1)).2.2.1, (old i h1).2.2.1]; exact h.colp i h1
    · rw [upd_same]
  · rcases cases_ i hi with h1 | rfl <;> rcases cases_ j hj with h2 | rfl
    · rw [(old i h1).1] at pi; rw [(old j h2).1] at pj; rw [(old i h1).2.2.1, (old j h2).2.2.1] at e; exact h.root i j h1 h2 pi pj e
    · rw [(old i h1).2.2.1, upd_same] at e; exact absurd e (hc i h1)
    · rw [(old j h2).2.2.1, upd_same] at e; exact absurd e.symm (hc j h2)
    · rfl
  · rcases cases_ i hi with h1 | rfl
    · rw [(old i h1).1] at hp ⊢; rw [(old i h1).2.2.2, (old _ (h.lt i h1)).2.2.2]; exact h.up i h1 hp
    · rw [upd_same] at hp; exact absurd rfl hp
  · rcases cases_ i hi with h1 | rfl
    · rw [(old i h1).1] at hp; rw [(old i h1).2.2.2, (old i h1).2.1]; exact h.big i h1 hp
    · rw [upd_same, upd_same]; exact Nat.le_refl _
  · rcases cases_ i hi with h1 | rfl
    · rw [(old i h1).2.2.2]; have := h.small i h1; omega
    · rw [upd_same]; simp
  · rcases cases_ i hi with h1 | rfl
    · rw [(old i h1).1] at hp; rw [(old i h1).2.1, cl i h1]; exact h.size i h1 hp
    · rw [upd_same, cn]
theorem Rings.add {n : Nat} {nx col : Nat → Nat} (h : Rings n nx col) (c : Nat) (hc : ∀ k, k < n → col k ≠ c) : Rings (n + 1) (upd nx n n) (upd col n c) := by
  intro i hi
  by_cases h1 : i < n
  · obtain ⟨L, h2, h3, h4, h5⟩ := h i h1
    refine ⟨L, h2.same fun k hk => upd_other _ _ (by have := ((h5 k).1 hk).1; omega), h3, h4, fun j => (h5 j).trans ?_⟩
    rw [upd_other col c (show i ≠ n by omega)]
    constructor
    · rintro ⟨hj, e⟩; exact ⟨by omega, by rw [upd_other _ _ (by omega)]; exact e⟩
    · rintro ⟨hj, e⟩
      by_cases hjn : j = n
      · subst hjn; rw [upd_same] at e; exact absurd e.symm (hc i h1)
      · rw [upd_other _ _ hjn] at e; exact ⟨by omega, e⟩
  · obtain rfl : i = n := by omega
    refine ⟨[i], .cons (by rw [upd_same]; exact .nil _), by simp, by simp, fun j => ?_⟩
    simp only [List.mem_singleton, upd_same]
    constructor
    · rintro rfl; exact ⟨hi, upd_same _ _ _⟩
    · rintro ⟨hj, e⟩
      by_cases hjn : j = i
      · exact hjn
      · rw [upd_other _ _ hjn] at e; exact absurd e (hc j (by omega))
theorem cnt_add {n : Nat} {col : Nat → Nat} (c : Nat) (hc : ∀ k, k < n → col k ≠ c) : cnt (n + 1) (upd col n c) = cnt n col + 1 := by
  rw [cnt_eq, cnt_eq, List.range_succ, List.countP_append]
  have e1 : (List.range n).countP (fst_ (upd col n c)) = (List.range n).countP (fst_ col) := by
    apply List.countP_congr
    intro k hk
    have hk := List.mem_range.1 hk
    rw [fst_iff, fst_iff]
    constructor
    · intro g j hj; have := g j hj; rwa [upd_other _ _ (by omega), upd_other _ _ (by omega)] at this
    · intro g j hj; rw [upd_other _ _ (by omega), upd_other _ _ (by omega)]; exact g j hj
  have e2 : [n].countP (fst_ (upd col n c)) = 1 := by
    have : fst_ (upd col n c) n = true := by
      rw [fst_iff]
      intro j hj
      rw [upd_same, upd_other _ _ (by omega)]
      exact hc j hj
    simp [this]
  rw [e1, e2]
theorem add_uf {S : Nat → Prop} {w : World} {b n : Nat} {col ro : Nat → Nat} {steps : Int} (h : UFo S w b n col ro steps) (hn : n < 1048576) (c : Nat) (hc : ∀ k, k < n → col k ≠ c) :
    Calls Tryz.prog 90 #[.pointer (some ⟨b, 0, none⟩)] w fun e w' => e = .returned (.int .i64 (n : Nat)) ∧ UFo (fun k => S k ∨ w.heap.size ≤ k) w' b (n + 1) (upd col n c) (upd ro n n) steps ∧ Else S w w' := by
  obtain ⟨A, Z, X, par, sz, nx, rk, h1, h2, h3, h4, h5⟩ := h
  have hct := cnt_le n col
  refine (add_fm h1 hn (by omega)).mono ?_
  rintro e w' ⟨rfl, ⟨A', Z', X', hf⟩, hE⟩
  refine ⟨rfl, ⟨A', Z', X', _, _, _, upd rk n 0, ?_, h2.add c hc, h3.add c hc, by omega, fun i hi => ?_⟩, hE⟩
  · have : ((cnt (n + 1) (upd col n c) : Nat) : Int) = (cnt n col : Nat) + 1 := by rw [cnt_add c hc]; omega
    rw [this]; exact hf
  · by_cases h6 : i = n
    · subst h6; rw [upd_same]; exact ⟨hi, upd_same _ _ _, rfl⟩
    · obtain ⟨g1, g2, g3⟩ := h5 i (by omega)
      rw [upd_other _ _ h6]
      exact ⟨by omega, by rw [upd_other _ _ (by omega)]; exact g2, by rw [upd_other _ _ (by omega), upd_other _ _ h6]; exact g3⟩
end Go.Proofs.YtojgiienohpaiaaGreat.Un
namespace Go.Proofs.YtojgiienohpaiaaGreat.Un
open Go.RowKit

theorem upd_id (k : Nat) : upd (fun j => j) k k = fun j => j := by
  funext j; unfold upd; split
  · rename_i h; exact h.symm
  · rfl
theorem forest_none (w : World) : UFo (fun k => w.heap.size ≤ k) (w.alloc (.cells #[.slice none 0 0, .slice none 0 0, .slice none 0 0, .int .i64 0, .int .i64 0] 153)) w.heap.size 0 (fun j => j) (fun j => j) 0 := by
  refine ⟨.slice none 0 0, .slice none 0 0, .slice none 0 0, fun j => j, fun _ => 1, fun j => j, fun _ => 0, ⟨heap_alloc_new w _, Nat.le_refl _, World.ownsRow_nil _ _ _ _, World.ownsRow_nil _ _ _ _, World.ownsRow_nil _ _ _ _, fun k hk => (by cases hk), fun k hk => (by cases hk), fun k hk => (by cases hk)⟩, UFr.alone 0, Rings.alone 0, by omega, fun i hi => by omega⟩
theorem UFo.tight {S : Nat → Prop} {w : World} {b n : Nat} {col ro : Nat → Nat} {steps : Int} (h : UFo S w b n col ro steps) : UFo (fun k => S k ∧ k < w.heap.size) w b n col ro steps := by
  obtain ⟨A, Z, X, par, sz, nx, rk, h1, h2⟩ := h
  exact ⟨A, Z, X, par, sz, nx, rk, ⟨h1.blk, ⟨h1.sb, h1.lt⟩, h1.ra, h1.rz, h1.rx, fun k hk => ⟨⟨(h1.sa k hk).1, (h1.ra.lt k hk).2⟩, (h1.sa k hk).2⟩, fun k hk => ⟨⟨(h1.sz_ k hk).1, (h1.rz.lt k hk).2⟩, (h1.sz_ k hk).2⟩, fun k hk => ⟨h1.sx k hk, (h1.rx.lt k hk).2⟩⟩, h2⟩
theorem UFo.more {S T : Nat → Prop} {w : World} {b n : Nat} {col ro : Nat → Nat} {steps : Int} (h : UFo S w b n col ro steps) (hst : ∀ k, S k → T k) : UFo T w b n col ro steps := by
  obtain ⟨A, Z, X, par, sz, nx, rk, h1, h2⟩ := h
  exact ⟨A, Z, X, par, sz, nx, rk, ⟨h1.blk, hst _ h1.sb, h1.ra, h1.rz, h1.rx, fun k hk => ⟨hst _ (h1.sa k hk).1, (h1.sa k hk).2⟩, fun k hk => ⟨hst _ (h1.sz_ k hk).1, (h1.sz_ k hk).2⟩, fun k hk => hst _ (h1.sx k hk)⟩, h2⟩
def intAt : Value → Int
  | .int _ n => n
  | _ => 0
set_option maxRecDepth 100000 in
set_option maxHeartbeats 1000000 in
theorem new_in (w : World) (n : Nat) (hn : n ≤ 1048576) :
    Calls Tryz.prog 89 #[.int .i64 (n : Nat)] w fun e w' => e = .returned (.tuple #[.pointer (some ⟨w.heap.size, 0, none⟩), .int .i64 0]) ∧ UFo (fun k => w.heap.size ≤ k ∧ k < w'.heap.size) w' w.heap.size n (fun j => j) (fun j => j) 0 ∧ Below w.heap.size w w' := by
  have f1 : decide ((n : Int) < 0) = false := decide_eq_false (by omega)
  have f2 : decide ((n : Int) > 1048576) = false := decide_eq_false (by omega)
  have f3 : decide ((1048576 : Int) < (n : Int)) = false := decide_eq_false (by omega)
  go_enter Tryz.func89, Tryz.ntmps89
  go_wp2_with fail
  go_loopw [14] (fun s wr => ∃ k : Nat, s = .int .i64 (k : Int) ∧ k ≤ n ∧ UFo (fun j => w.heap.size ≤ j) wr w.heap.size k (fun j => j) (fun j => j) 0 ∧ Below w.heap.size w wr) (fun s _ => ((n : Int) - intAt s).toNat)
  case atStart => exact ⟨0, rfl, by omega, forest_none w, (Below.refl _ _).alloc (Nat.le_refl _) _⟩
  case round =>
    obtain ⟨k, rfl, hk, hU, hB⟩ := hrel
    by_cases hkn : k < n
    · have g1 : decide ((k : Int) < (n : Int)) = true := decide_eq_true (by omega)
      have HA := add_uf hU (by omega) k (fun j hj => by omega)
      rw [upd_id] at HA
      have HB := Lib.hid hB
      clear hU hB
      go_wp2_with fail
      refine HA.mono ?_
      rintro e w2 ⟨rfl, hU2, hE⟩
      have hb2 : Below w.heap.size w w2 := HB.out.trans (hE.below (fun k hk => hk) HB.out.size)
      have HF := Lib.hid (And.intro (hU2.more fun k hk => by rcases hk with hk | hk; exact hk; have := HB.out.size; omega) hb2)
      clear hU2 hE hb2
      go_wp2_with fail
      go_roundw
      case rel => exact ⟨k + 1, by go_num, by omega, HF.out.1, HF.out.2⟩
      case measure =>
        simp only [intAt]
        omega
    · have g1 : decide ((k : Int) < (n : Int)) = false := decide_eq_false (by omega)
      obtain rfl : k = n := by omega
      have HF := Lib.hid (And.intro hU hB)
      clear hU hB
      go_wp2_with fail
      go_ret2
      exact ⟨rfl, HF.out.1.tight, HF.out.2⟩
end Go.Proofs.YtojgiienohpaiaaGreat.Un
namespace Go.Proofs.YtojgiienohpaiaaGreat.Un
open Go.RowKit

theorem steps_uf {S : Nat → Prop} {w : World} {b n : Nat} {col ro : Nat → Nat} {steps : Int} (h : UFo S w b n col ro steps) :
    Calls Tryz.prog 91 #[.pointer (some ⟨b, 0, none⟩)] w fun e w' => e = .returned (.int .i64 steps) ∧ w' = w := by
  obtain ⟨A, Z, X, par, sz, nx, rk, h1, _⟩ := h
  exact steps_any h1
theorem UFo.few {S : Nat → Prop} {w : World} {b n : Nat} {col ro : Nat → Nat} {steps : Int} (h : UFo S w b n col ro steps) : n ≤ 1048576 := by
  obtain ⟨_, _, _, _, _, _, _, _, _, _, hn, _⟩ := h; exact hn
end Go.Proofs.YtojgiienohpaiaaGreat.Un
namespace Go.Proofs.YtojgiienohpaiaaGreat.Un
open Go.RowKit
set_option maxRecDepth 100000
structure StM (S : Nat → Prop) (w : World) (cb : Nat) (x0 x1 x2 : Value) (f0 c fo ob : Nat) (x6 x7 : Value) (n : Nat) (col ro : Nat → Nat) (steps : Int) : Prop where
  blk : w.heap[cb]? = some (Obj.cells #[x0, x1, x2, .slice (some ⟨f0, 0, none⟩) 1 c, .int .i64 n, .map (some ob), x6, x7] 100)
  map : MapF (fun _ => none) 0 0 ob w
  ncb : ¬ S cb
  nob : ¬ S ob
  nf0 : ¬ S f0
  row : w.ownsRow 0 143 1 (.slice (some ⟨f0, 0, none⟩) 1 c) 1 [.pointer (some ⟨fo, 0, none⟩)]
  uf : UFo S w fo n col ro steps
theorem own_else {S : Nat → Prop} {w w' : World} {base : Nat} {e : TypeId} {size : Nat} {v : Value} {n : Nat} {xs : List Value} (h : w.ownsRow base e size v n xs) (he : Else S w w') (hs : ∀ k, v.ownBlock = some k → ¬ S k) : w'.ownsRow base e size v n xs := by
  refine ⟨h.1, ?_⟩
  rcases h.2 with h2 | ⟨g, cap, cur, hv, hg, hh, r⟩
  · exact .inl h2
  · exact .inr ⟨g, cap, cur, hv, hg, (he.block g (Array.getElem?_eq_some_iff.1 hh).1 (hs g (by rw [hv]; rfl))).trans hh, r⟩
section
variable {S : Nat → Prop} {w w' : World} {cb : Nat} {x0 x1 x2 : Value} {f0 c fo ob : Nat} {x6 x7 : Value} {n : Nat} {col ro col' ro' : Nat → Nat} {steps steps' : Int}
theorem StM.turn (h : StM S w cb x0 x1 x2 f0 c fo ob x6 x7 n col ro steps) (he : Else S w w') (hu : UFo S w' fo n col' ro' steps') : StM S w' cb x0 x1 x2 f0 c fo ob x6 x7 n col' ro' steps' :=
  ⟨(he.block cb (Array.getElem?_eq_some_iff.1 h.blk).1 h.ncb).trans h.blk, h.map.block (he.block ob h.map.lt h.nob), h.ncb, h.nob, h.nf0, own_else h.row he (fun k hk => by cases hk; exact h.nf0), hu⟩
theorem StM.cells (h : StM S w cb x0 x1 x2 f0 c fo ob x6 x7 n col ro steps) : cb < w.heap.size ∧ w.cell? ⟨cb, 3, none⟩ = some (.slice (some ⟨f0, 0, none⟩) 1 c) ∧ w.cell? ⟨cb, 4, none⟩ = some (.int .i64 n) ∧ w.cell? ⟨cb, 5, none⟩ = some (.map (some ob)) ∧ w.cell? ⟨f0, 0, none⟩ = some (.pointer (some ⟨fo, 0, none⟩)) :=
  ⟨(Array.getElem?_eq_some_iff.1 h.blk).1, cell_of_row w cb 3 _ _ _ h.blk, cell_of_row w cb 4 _ _ _ h.blk, cell_of_row w cb 5 _ _ _ h.blk, by have := h.row.cellAt 0 (by omega); simpa using this⟩
theorem UFo.roots (h : UFo S w fo n col ro steps) {i : Nat} (hi : i < n) : ro i < n ∧ col (ro i) = col i := by
  obtain ⟨_, _, _, _, _, _, _, _, _, _, _, h5⟩ := h
  exact ⟨(h5 i hi).1, (h5 i hi).2.2⟩
theorem quo0 {i n : Nat} (hi : i < n) (hn : n ≤ 1048576) : Int.tdiv (i : Int) 1048576 = 0 ∧ Int.tmod (i : Int) 1048576 = i :=
  ⟨Int.tdiv_eq_zero_of_lt (by omega) (by omega), Int.tmod_eq_of_lt (by omega) (by omega)⟩
theorem wf_small {i : Nat} (h : i < 9223372036854775808) : (Lit.int .i64 (i : Int)).wf = true := by
  simp [Lit.wf, IntKind.min, IntKind.max, IntKind.bits, IntKind.signed]; omega
theorem inner_st (h : StM S w cb x0 x1 x2 f0 c fo ob x6 x7 n col ro steps) (hst : 0 ≤ steps ∧ steps ≤ 100000000000000) (i : Nat) (hi : i < n) :
    Calls Tryz.prog 92 #[.pointer (some ⟨cb, 3, none⟩), .int .i64 i] w fun e w' => ∃ k : Nat, e = .returned (.int .i64 (ro i : Nat)) ∧ k ≤ dg n ∧ StM S w' cb x0 x1 x2 f0 c fo ob x6 x7 n col ro (steps + k) ∧ Else S w w' := by
  have hn : n ≤ 1048576 := h.uf.few
  obtain ⟨q1, q2⟩ := quo0 hi hn
  have HR := root_in h.uf hst i hi
  obtain ⟨hl, c3, _, _, r0⟩ := h.cells
  have hro := (h.uf.roots hi).1
  have HH := Lib.hid h
  clear h
  go_enter Tryz.func92, Tryz.ntmps92
  go_wp2_with fail
  refine HR.mono ?_
  rintro e w2 ⟨k, rfl, hk, hu, he⟩
  have HF := Lib.hid (And.intro hk (And.intro hu he))
  clear hk hu he HR
  go_wp2_with fail
  go_ret
  obtain ⟨hk, hu, he⟩ := HF.out
  exact ⟨k, rfl, hk, HH.out.turn he hu, he⟩
theorem root_st (h : StM S w cb x0 x1 x2 f0 c fo ob x6 x7 n col ro steps) (hst : 0 ≤ steps ∧ steps ≤ 100000000000000) (i : Nat) (hi : i < n) :
    Calls Tryz.prog 72 #[.pointer (some ⟨cb, 3, none⟩), .int .i64 i] w fun e w' => ∃ k : Nat, e = .returned (.int .i64 (ro i : Nat)) ∧ k ≤ dg n ∧ StM S w' cb x0 x1 x2 f0 c fo ob x6 x7 n col ro (steps + k) ∧ Else S w w' := by
  have hn : n ≤ 1048576 := h.uf.few
  have hro := (h.uf.roots hi).1
  have HR := inner_st h hst i hi
  clear h
  go_enter Tryz.func72, Tryz.ntmps72
  go_wp2_with fail
  refine HR.mono ?_
  rintro e w2 ⟨k, rfl, hk, hs, he⟩
  obtain ⟨hl, _, _, c5, _⟩ := hs.cells
  have hlook := hs.map.look_ok intsTy (ro i : Nat) (wf_small (by omega))
  have HF := Lib.hid (And.intro hk (And.intro hs he))
  clear hk hs he HR
  go_wp2_with fail
  go_loopw [6] (fun s wr => s = .int .i64 (ro i : Nat) ∧ wr = w2) (fun _ _ => 0)
  case atStart => exact ⟨rfl, rfl⟩
  case round =>
    obtain ⟨rfl, rfl⟩ := hrel
    go_wp2_with fail
    go_ret
    obtain ⟨hk, hs, he⟩ := HF.out
    exact ⟨k, rfl, hk, hs, he⟩
def SJoin (S : Nat → Prop) (w : World) (cb : Nat) (x0 x1 x2 : Value) (f0 c fo ob : Nat) (x6 x7 : Value) (n : Nat) (col ro : Nat → Nat) (steps : Int) (x y : Nat) (e : Ending) (w' : World) : Prop :=
  ∃ (r k : Nat) (ro' : Nat → Nat), e = .returned (.int .i64 r) ∧ r < n ∧ (∀ i, i < n → ro' i = if paint col x y i = paint col x y r then r else ro i) ∧ (col r = col x ∨ col r = col y) ∧ k ≤ 2 * dg n ∧ StM S w' cb x0 x1 x2 f0 c fo ob x6 x7 n (paint col x y) ro' (steps + k) ∧ Else S w w'
theorem join_st (h : StM S w cb x0 x1 x2 f0 c fo ob x6 x7 n col ro steps) (hst : 0 ≤ steps ∧ steps ≤ 10000000000000) (x y : Nat) (hx : x < n) (hy : y < n) :
    Calls Tryz.prog 94 #[.pointer (some ⟨cb, 3, none⟩), .int .i64 x, .int .i64 y] w (SJoin S w cb x0 x1 x2 f0 c fo ob x6 x7 n col ro steps x y) := by
  have hn : n ≤ 1048576 := h.uf.few
  obtain ⟨q1, q2⟩ := quo0 hx hn
  obtain ⟨q3, q4⟩ := quo0 hy hn
  have HR := join_in2 h.uf hst x y hx hy
  obtain ⟨hl, c3, _, _, r0⟩ := h.cells
  have HH := Lib.hid h
  clear h
  go_enter Tryz.func94, Tryz.ntmps94
  go_wp2_with fail
  refine HR.mono ?_
  rintro e w2 ⟨r, k, ro', rfl, hr, hrr, hc, hk, hu, he⟩
  have HF := Lib.hid (And.intro hc (And.intro hk (And.intro hu he)))
  clear hc hk hu he HR
  go_wp2_with fail
  go_ret
  obtain ⟨hc, hk, hu, he⟩ := HF.out
  exact ⟨r, k, ro', rfl, hr, hrr, hc, hk, HH.out.turn he hu, he⟩
theorem steps_st (h : StM S w cb x0 x1 x2 f0 c fo ob x6 x7 n col ro steps) (hst : 0 ≤ steps ∧ steps ≤ 100000000000000) :
    Calls Tryz.prog 71 #[.pointer (some ⟨cb, 3, none⟩)] w fun e w' => e = .returned (.int .i64 steps) ∧ w' = w := by
  have HR := steps_uf h.uf
  obtain ⟨hl, c3, _, _, r0⟩ := h.cells
  clear h
  go_enter Tryz.func71, Tryz.ntmps71
  go_wp2_with fail
  go_loopw [3, 11] (fun s i wr => wr = w ∧ ((i = .int .i64 0 ∧ s = .int .i64 0) ∨ (i = .int .i64 1 ∧ s = .int .i64 steps))) (fun _ i _ => (2 - intAt i).toNat)
  case atStart => exact ⟨rfl, .inl ⟨rfl, rfl⟩⟩
  case round =>
    obtain ⟨rfl, hrel | hrel⟩ := hrel
    · obtain ⟨rfl, rfl⟩ := hrel
      go_wp2_with fail
      refine HR.mono ?_
      rintro e w2 ⟨rfl, rfl⟩
      go_wp2_with fail
      exact ⟨⟨trivial, .inr ⟨rfl, rfl⟩⟩, by show (2 - (1 : Int)).toNat < (2 - (0 : Int)).toNat; decide⟩
    · obtain ⟨rfl, rfl⟩ := hrel
      go_wp2_with fail
      go_ret
      exact ⟨rfl, rfl⟩
end
end Go.Proofs.YtojgiienohpaiaaGreat.Un
