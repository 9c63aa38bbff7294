/- Texts of one proof, one behind the other. -/
import Derived.Test.YtcaclgaaaanfnaaMgUnifyOrder7
import Derived.Test.YtcaclgaaaanfnaaMgUnifyOrder1
import Derived.Test.YtcaclgaaaanfnaaMgUnifyOrder4
import Derived.Test.YtcaclgaaaanfnaaMgUnifyOrder5
import Derived.Test.YtcaclgaaaanfnaaMgUnifyOrder2
import Derived.RangeFuncFrom
/- union: Add, New. -/
namespace Go.Proofs.Ytcaclgaaaanfnaa.Un
open Go.RowKit
attribute [local go_sem] Oper.semAt_some

/-- An append, under a name of its own. -/
def app_ (ats : Array Go.TypeId) (ty : Go.TypeId) (args : Array Value) : Sem Value := Builtin.append_ ats ty args
theorem builtin_app (b : Builtin) (ats : Array Go.TypeId) (ty : Go.TypeId) (cs : Array Bool) (args : Array Value) (hb : b = .append) : builtin b ats ty cs args = (do pure (.value (← app_ ats ty args))) := by subst hb; rfl
attribute [local go_sem ↓] builtin_app
theorem intInfo : (Try.prog.info? 3).map (fun i => (i.zero, i.size, i.bytes)) = some (some (.int .i64 0), 1, 8) := by kernel_rfl
theorem info_parts {o : Option TypeInfo} {z : Option Value} {a b : Nat} (h : o.map (fun i => (i.zero, i.size, i.bytes)) = some (z, a, b)) : ∃ i, o = some i ∧ i.zero = z ∧ i.size = a ∧ i.bytes = b := by
  cases o with
  | none => cases h
  | some i => simp only [Option.map_some, Option.some.injEq, Prod.mk.injEq] at h; exact ⟨i, rfl, h.1, h.2.1, h.2.2⟩
theorem own_form {w : World} {base : Nat} {e : TypeId} {size : Nat} {v : Value} {n : Nat} {xs : List Value} (h : w.ownsRow base e size v n xs) : ∃ A c, v = .slice A n c ∧ n ≤ c ∧ c ≤ maxLen := by
  rcases h.2 with ⟨rfl, rfl⟩ | ⟨g, cap, cur, rfl, hb, hg, hnc, hcm, _⟩
  · exact ⟨_, _, rfl, Nat.le_refl _, by unfold maxLen; omega⟩
  · exact ⟨_, _, rfl, hnc, hcm⟩
/-- An int put behind a row. -/
theorem app_int (w : World) (v : Value) (n : Nat) (xs : List Value) (hown : w.ownsRow 0 3 1 v n xs) (x : Int) (hn : n ≤ 10000000) :
    ∃ g cp w1, (app_ #[43, 43] 43 #[v, .slice (some ⟨w.heap.size, 0, none⟩) 1 1]).run Try.prog (w.alloc (.cells #[.int .i64 x] 3)) = .ok (.slice (some ⟨g, 0, none⟩) (n + 1) cp) w1 ∧
      w1.ownsRow 0 3 1 (.slice (some ⟨g, 0, none⟩) (n + 1) cp) (n + 1) (xs ++ [.int .i64 x]) ∧ (w.alloc (.cells #[.int .i64 x] 3)).grownBy w1 v.ownBlock ∧ (v.ownBlock = some g ∨ g = w.heap.size + 1) := by
  obtain ⟨i0, hi0, hz0, hz1, hz2⟩ := info_parts intInfo
  have own1 := hown.alloc (.cells #[.int .i64 x] 3)
  have rd1 : Rd (w.alloc (.cells #[.int .i64 x] 3)) 1 (.slice (some ⟨w.heap.size, 0, none⟩) 1 1) 1 [.int .i64 x] := rd_new w [.int .i64 x] 3 1 1 rfl (by unfold maxLen; omega)
  obtain ⟨v', w1, hrun, hown1, hg1, hat⟩ := run_append_rd (P := Try.prog) _ 0 43 43 3 i0 _ 1 8 Try.underlying43 hi0 hz0 hz1 hz2 rfl (by omega) v _ _ own1 _ 1 _ rd1 (by simp [Value.oneCell']) (by unfold maxLen; omega) (by omega) (by omega)
  obtain ⟨g, cp, rfl, _, _⟩ := own_shape hown1 (by omega)
  refine ⟨g, cp, w1, hrun, hown1, hg1, ?_⟩
  rcases hat with e | e
  · exact .inl e.symm
  · right
    have e : some g = some (w.heap.size + 1) := by rw [← World.size_alloc w (.cells #[.int .i64 x] 3)]; exact e
    injection e
theorem row_stays {w w1 : World} {v u : Value} {n m : Nat} {xs ys : List Value} {o : Obj} {x : Value} {b off : Nat} (h : w.ownsRow 0 3 1 v n xs) (_hu : w.ownsRow 0 3 1 u m ys) (hg : (w.alloc o).grownBy w1 u.ownBlock) (hne : ∀ k, v.ownBlock = some k → u.ownBlock ≠ some k) (hb : v.ownBlock ≠ some b) : (w1.setCell ⟨b, off, none⟩ x).ownsRow 0 3 1 v n xs := by
  refine ownsRow_setCell_other ((h.alloc o).kept hg ?_) hb x
  cases e : v.ownBlock with
  | none => exact .inl rfl
  | some k => exact .inr (fun e2 => hne k e e2.symm)
/-- A forest, its rows of whatever length. -/
structure FG (S : Nat → Prop) (w : World) (b : Nat) (A Z X : Value) (nA nZ nX : Nat) (LA LZ LX : List Value) (sets steps : Int) : Prop where
  blk : w.heap[b]? = some (Obj.cells #[A, Z, X, .int .i64 sets, .int .i64 steps] 168)
  sb : S b
  ra : w.ownsRow 0 3 1 A nA LA
  rz : w.ownsRow 0 3 1 Z nZ LZ
  rx : w.ownsRow 0 3 1 X nX LX
  sa : ∀ k, A.ownBlock = some k → S k ∧ Z.ownBlock ≠ some k ∧ X.ownBlock ≠ some k
  sz_ : ∀ k, Z.ownBlock = some k → S k ∧ X.ownBlock ≠ some k
  sx : ∀ k, X.ownBlock = some k → S k
section
variable {S : Nat → Prop} {w w1 : World} {b g cp : Nat} {A Z X : Value} {nA nZ nX : Nat} {LA LZ LX : List Value} {sets steps x : Int}
theorem FG.blk1 (h : FG S w b A Z X nA nZ nX LA LZ LX sets steps) {v : Value} {n : Nat} {xs : List Value} (hv : w.ownsRow 0 3 1 v n xs) {o : Obj} (hg : (w.alloc o).grownBy w1 v.ownBlock) : w1.heap[b]? = some (Obj.cells #[A, Z, X, .int .i64 sets, .int .i64 steps] 168) := by
  have hl := (Array.getElem?_eq_some_iff.1 h.blk).1
  refine (hg.block b (by rw [World.size_alloc]; omega) (fun e => row_ne hv h.blk (by decide) e.symm)).trans ((Below.heap_alloc _ _ _ hl).trans h.blk)
/-- The new row is none of the others'. -/
theorem far_of {v : Value} {u : Value} {m n : Nat} {xs ys : List Value} (hu : w.ownsRow 0 3 1 u m ys) (_hv : w.ownsRow 0 3 1 v n xs) (hat : v.ownBlock = some g ∨ g = w.heap.size + 1) (hne : ∀ k, v.ownBlock = some k → u.ownBlock ≠ some k) : u.ownBlock ≠ some g := by
  rcases hat with e | e
  · exact hne g e
  · intro e2
    have := (hu.lt g e2).2
    omega
theorem Else.grown1 {S : Nat → Prop} {w w1 : World} {o : Obj} {row : Option Nat} (hg : (w.alloc o).grownBy w1 row) (hr : ∀ k, row = some k → S k) : Else S w w1 :=
  (Else.alloc S w o).trans (Else.grown hg hr)
theorem FG.app0 (h : FG S w b A Z X nA nZ nX LA LZ LX sets steps) (ho : w1.ownsRow 0 3 1 (.slice (some ⟨g, 0, none⟩) (nA + 1) cp) (nA + 1) (LA ++ [.int .i64 x])) {o : Obj} (hg : (w.alloc o).grownBy w1 A.ownBlock) (hat : A.ownBlock = some g ∨ g = w.heap.size + 1) :
    FG (fun k => S k ∨ w.heap.size ≤ k) (w1.setCell ⟨b, 0, none⟩ (.slice (some ⟨g, 0, none⟩) (nA + 1) cp)) b (.slice (some ⟨g, 0, none⟩) (nA + 1) cp) Z X (nA + 1) nZ nX (LA ++ [.int .i64 x]) LZ LX sets steps ∧ Else S w (w1.setCell ⟨b, 0, none⟩ (.slice (some ⟨g, 0, none⟩) (nA + 1) cp)) := by
  have hb1 := h.blk1 h.ra hg
  have fz := far_of h.rz h.ra hat fun k hk => (h.sa k hk).2.1
  have fx := far_of h.rx h.ra hat fun k hk => (h.sa k hk).2.2
  refine ⟨⟨heap_setCell_same w1 b 0 _ _ _ hb1, .inl h.sb, ownsRow_setCell_other ho (row_ne ho hb1 (by decide)) _, row_stays h.rz h.ra hg (fun k hk e => (h.sa k e).2.1 hk) (row_ne h.rz h.blk (by decide)), row_stays h.rx h.ra hg (fun k hk e => (h.sa k e).2.2 hk) (row_ne h.rx h.blk (by decide)), ?_, fun k hk => ⟨.inl (h.sz_ k hk).1, (h.sz_ k hk).2⟩, fun k hk => .inl (h.sx k hk)⟩, ?_⟩
  · intro k hk
    have hk : some g = some k := hk
    injection hk with hk
    subst hk
    refine ⟨?_, fz, fx⟩
    rcases hat with e | e
    · exact .inl (h.sa g e).1
    · exact .inr (by omega)
  · exact (Else.grown1 hg fun k hk => (h.sa k hk).1).trans (Else.set w1 (p := ⟨b, 0, none⟩) h.sb _)
theorem FG.app1 (h : FG S w b A Z X nA nZ nX LA LZ LX sets steps) (ho : w1.ownsRow 0 3 1 (.slice (some ⟨g, 0, none⟩) (nZ + 1) cp) (nZ + 1) (LZ ++ [.int .i64 x])) {o : Obj} (hg : (w.alloc o).grownBy w1 Z.ownBlock) (hat : Z.ownBlock = some g ∨ g = w.heap.size + 1) :
    FG (fun k => S k ∨ w.heap.size ≤ k) (w1.setCell ⟨b, 1, none⟩ (.slice (some ⟨g, 0, none⟩) (nZ + 1) cp)) b A (.slice (some ⟨g, 0, none⟩) (nZ + 1) cp) X nA (nZ + 1) nX LA (LZ ++ [.int .i64 x]) LX sets steps ∧ Else S w (w1.setCell ⟨b, 1, none⟩ (.slice (some ⟨g, 0, none⟩) (nZ + 1) cp)) := by
  have hb1 := h.blk1 h.rz hg
  have fa := far_of h.ra h.rz hat fun k hk e => (h.sa k e).2.1 hk
  have fx := far_of h.rx h.rz hat fun k hk => (h.sz_ k hk).2
  refine ⟨⟨heap_setCell_same w1 b 1 _ _ _ hb1, .inl h.sb, row_stays h.ra h.rz hg (fun k hk => (h.sa k hk).2.1) (row_ne h.ra h.blk (by decide)), ownsRow_setCell_other ho (row_ne ho hb1 (by decide)) _, row_stays h.rx h.rz hg (fun k hk e => (h.sz_ k e).2 hk) (row_ne h.rx h.blk (by decide)), fun k hk => ⟨.inl (h.sa k hk).1, fun e => fa (by rw [hk]; exact e.symm), (h.sa k hk).2.2⟩, ?_, fun k hk => .inl (h.sx k hk)⟩, ?_⟩
  · intro k hk
    have hk : some g = some k := hk
    injection hk with hk
    subst hk
    refine ⟨?_, fx⟩
    rcases hat with e | e
    · exact .inl (h.sz_ g e).1
    · exact .inr (by omega)
  · exact (Else.grown1 hg fun k hk => (h.sz_ k hk).1).trans (Else.set w1 (p := ⟨b, 1, none⟩) h.sb _)
theorem FG.app2 (h : FG S w b A Z X nA nZ nX LA LZ LX sets steps) (ho : w1.ownsRow 0 3 1 (.slice (some ⟨g, 0, none⟩) (nX + 1) cp) (nX + 1) (LX ++ [.int .i64 x])) {o : Obj} (hg : (w.alloc o).grownBy w1 X.ownBlock) (hat : X.ownBlock = some g ∨ g = w.heap.size + 1) :
    FG (fun k => S k ∨ w.heap.size ≤ k) (w1.setCell ⟨b, 2, none⟩ (.slice (some ⟨g, 0, none⟩) (nX + 1) cp)) b A Z (.slice (some ⟨g, 0, none⟩) (nX + 1) cp) nA nZ (nX + 1) LA LZ (LX ++ [.int .i64 x]) sets steps ∧ Else S w (w1.setCell ⟨b, 2, none⟩ (.slice (some ⟨g, 0, none⟩) (nX + 1) cp)) := by
  have hb1 := h.blk1 h.rx hg
  have fa := far_of h.ra h.rx hat fun k hk e => (h.sa k e).2.2 hk
  have fz := far_of h.rz h.rx hat fun k hk e => (h.sz_ k e).2 hk
  refine ⟨⟨heap_setCell_same w1 b 2 _ _ _ hb1, .inl h.sb, row_stays h.ra h.rx hg (fun k hk => (h.sa k hk).2.2) (row_ne h.ra h.blk (by decide)), row_stays h.rz h.rx hg (fun k hk => (h.sz_ k hk).2) (row_ne h.rz h.blk (by decide)), ownsRow_setCell_other ho (row_ne ho hb1 (by decide)) _, fun k hk => ⟨.inl (h.sa k hk).1, (h.sa k hk).2.1, fun e => fa (by rw [hk]; exact e.symm)⟩, fun k hk => ⟨.inl (h.sz_ k hk).1, fun e => fz (by rw [hk]; exact e.symm)⟩, ?_⟩, ?_⟩
  · intro k hk
    have hk : some g = some k := hk
    injection hk with hk
    subst hk
    rcases hat with e | e
    · exact .inl (h.sx g e)
    · exact .inr (by omega)
  · exact (Else.grown1 hg fun k hk => h.sx k hk).trans (Else.set w1 (p := ⟨b, 2, none⟩) h.sb _)
end
theorem FM.fg {S : Nat → Prop} {w : World} {b n : Nat} {A Z X : Value} {par sz nx : Nat → Nat} {sets steps : Int} (h : FM S w b n A Z X par sz nx sets steps) : FG S w b A Z X n n n (rowI n par) (rowI n sz) (rowI n nx) sets steps :=
  ⟨h.blk, h.sb, h.ra, h.rz, h.rx, h.sa, h.sz_, h.sx⟩
theorem rowI_upd (n v : Nat) (f : Nat → Nat) : rowI (n + 1) (upd f n v) = rowI n f ++ [.int .i64 (v : Int)] := by
  rw [rowI_snoc, upd_same, rowI_congr (f := upd f n v) (g := f) fun k hk => upd_other _ _ (by omega)]
set_option maxRecDepth 100000 in
set_option maxHeartbeats 1000000 in
theorem add_fm {S : Nat → Prop} {w : World} {b n : Nat} {A Z X : Value} {par sz nx : Nat → Nat} {sets steps : Int} (h : FM S w b n A Z X par sz nx sets steps) (hn : n < 1048576) (hst : 0 ≤ sets ∧ sets ≤ 1048576) :
    Calls Try.prog 102 #[.pointer (some ⟨b, 0, none⟩)] w fun e w' => e = .returned (.int .i64 (n : Nat)) ∧ (∃ A' Z' X', FM (fun k => S k ∨ w.heap.size ≤ k) w' b (n + 1) A' Z' X' (upd par n n) (upd sz n 1) (upd nx n n) (sets + 1) steps) ∧ Else S w w' := by
  have H := Lib.hid h
  have c0 := h.cells.1
  have hl := h.lt
  have hz := h.frozen 0
  obtain ⟨Aa, ca, rfl, _, _⟩ := own_form h.ra
  obtain ⟨Za, cz, rfl, _, _⟩ := own_form h.rz
  obtain ⟨Xa, cx, rfl, _, _⟩ := own_form h.rx
  obtain ⟨g1, p1, w1, r1, o1, gr1, at1⟩ := app_int w _ n _ h.ra n (by omega)
  obtain ⟨F1, E1⟩ := h.fg.app0 o1 gr1 at1
  have hb1 := h.fg.blk1 h.ra gr1
  have hl1 := (Array.getElem?_eq_some_iff.1 hb1).1
  have hz1 : w1.frozen? ⟨b, 0, none⟩ = false := by simp [World.frozen?, hb1]
  have d0 : w1.cell? ⟨b, 0, none⟩ = some (.slice Aa n ca) := cell_of_row w1 b 0 _ _ _ hb1
  have f1 : ((n : Int) == 1048576) = false := by simp; omega
  have HN := Lib.hid (And.intro F1 E1)
  clear h F1 E1 o1 gr1 at1 hb1
  go_enter Try.func102, Try.ntmps102
  go_upto_region 5 with fail
  refine wp_world (fun V => FG (fun k => S k ∨ w.heap.size ≤ k) V b (.slice (some ⟨g1, 0, none⟩) (n + 1) p1) (.slice Za n cz) (.slice Xa n cx) (n + 1) n n (rowI n par ++ [.int .i64 (n : Nat)]) (rowI n sz) (rowI n nx) sets steps ∧ Else S w V) HN.out ?_
  rintro V ⟨F1, E1⟩
  clear c0 hl hz r1 hl1 hz1 d0 f1
  have c0 : V.cell? ⟨b, 1, none⟩ = some (.slice Za n cz) := cell_of_row V b 1 _ _ _ F1.blk
  have hl := (Array.getElem?_eq_some_iff.1 F1.blk).1
  obtain ⟨g2, p2, w2, r2, o2, gr2, at2⟩ := app_int V _ n _ F1.rz 1 (by omega)
  obtain ⟨F2, E2⟩ := F1.app1 o2 gr2 at2
  have hb2 := F1.blk1 F1.rz gr2
  have hl2 := (Array.getElem?_eq_some_iff.1 hb2).1
  have hz2 : w2.frozen? ⟨b, 1, none⟩ = false := by simp [World.frozen?, hb2]
  have d1 : w2.cell? ⟨b, 1, none⟩ = some (.slice Za n cz) := cell_of_row w2 b 1 _ _ _ hb2
  have HN2 := Lib.hid (And.intro E1 (And.intro F2 E2))
  have hVs := E1.size
  clear F1 E1 o2 gr2 at2 hb2 F2 E2 HN
  go_upto_region 6 with fail
  refine wp_world (fun V' => FG (fun k => (S k ∨ w.heap.size ≤ k) ∨ V.heap.size ≤ k) V' b (.slice (some ⟨g1, 0, none⟩) (n + 1) p1) (.slice (some ⟨g2, 0, none⟩) (n + 1) p2) (.slice Xa n cx) (n + 1) (n + 1) n (rowI n par ++ [.int .i64 (n : Nat)]) (rowI n sz ++ [.int .i64 1]) (rowI n nx) sets steps ∧ Else (fun k => S k ∨ w.heap.size ≤ k) w V')
    ⟨HN2.out.2.1, (HN2.out.1.mono fun k hk => .inl hk).trans HN2.out.2.2⟩ ?_
  rintro V' ⟨F2, E2⟩
  clear c0 hl r2 hl2 hz2 d1 HN2
  have c0 : V'.cell? ⟨b, 2, none⟩ = some (.slice Xa n cx) := cell_of_row V' b 2 _ _ _ F2.blk
  have hl := (Array.getElem?_eq_some_iff.1 F2.blk).1
  obtain ⟨g3, p3, w3, r3, o3, gr3, at3⟩ := app_int V' _ n _ F2.rx n (by omega)
  obtain ⟨F3, E3⟩ := F2.app2 o3 gr3 at3
  have hb3 := F2.blk1 F2.rx gr3
  have hl3 := (Array.getElem?_eq_some_iff.1 hb3).1
  have hz3 : w3.frozen? ⟨b, 2, none⟩ = false := by simp [World.frozen?, hb3]
  have d2 : w3.cell? ⟨b, 2, none⟩ = some (.slice Xa n cx) := cell_of_row w3 b 2 _ _ _ hb3
  have d3 : w3.cell? ⟨b, 3, none⟩ = some (.int .i64 sets) := cell_of_row w3 b 3 _ _ _ hb3
  have hz4 : w3.frozen? ⟨b, 3, none⟩ = false := by simp [World.frozen?, hb3]
  have HN3 := Lib.hid (And.intro E2 (And.intro F3 E3))
  have hVs' := E2.size
  clear F2 E2 o3 gr3 at3 hb3 F3 E3
  go_wp2_with fail
  go_ret
  obtain ⟨E2, F3, E3⟩ := HN3.out
  have hsub : ∀ k, ((((S k ∨ w.heap.size ≤ k) ∨ V.heap.size ≤ k) ∨ V'.heap.size ≤ k) → (S k ∨ w.heap.size ≤ k)) := by
    rintro k (((h | h) | h) | h)
    · exact .inl h
    · exact .inr h
    · exact .inr (by omega)
    · exact .inr (by omega)
  have hblk := heap_setCell_same _ b 3 _ _ (.int .i64 (sets + 1)) F3.blk
  have hE : Else (fun k => S k ∨ w.heap.size ≤ k) w ((w3.setCell ⟨b, 2, none⟩ (.slice (some ⟨g3, 0, none⟩) (n + 1) p3)).setCell ⟨b, 3, none⟩ (.int .i64 (sets + 1))) :=
    (E2.trans (E3.mono fun k hk => hsub k (.inl hk))).trans (Else.set _ (p := ⟨b, 3, none⟩) (hsub b F3.sb) _)
  refine ⟨rfl, ⟨.slice (some ⟨g1, 0, none⟩) (n + 1) p1, .slice (some ⟨g2, 0, none⟩) (n + 1) p2, .slice (some ⟨g3, 0, none⟩) (n + 1) p3, ⟨hblk, hsub b F3.sb, ?_, ?_, ?_, fun k hk => ⟨hsub k (F3.sa k hk).1, (F3.sa k hk).2⟩, fun k hk => ⟨hsub k (F3.sz_ k hk).1, (F3.sz_ k hk).2⟩, fun k hk => hsub k (F3.sx k hk)⟩⟩, ⟨hE.os, hE.tape, hE.output, hE.size, fun k hk hs => hE.block k hk fun hx => by rcases hx with hx | hx; exact hs hx; omega⟩⟩
  · rw [rowI_upd]; exact ownsRow_setCell_other F3.ra (row_ne F3.ra F3.blk (by decide)) _
  · rw [rowI_upd]; exact ownsRow_setCell_other F3.rz (row_ne F3.rz F3.blk (by decide)) _
  · rw [rowI_upd]; exact ownsRow_setCell_other F3.rx (row_ne F3.rx F3.blk (by decide)) _
/-- Color for a new one. -/
theorem UFr.add {n : Nat} {par sz col rk : Nat → Nat} (h : UFr n par sz col rk) (c : Nat) (hc : ∀ k, k < n → col k ≠ c) : UFr (n + 1) (upd par n n) (upd sz n 1) (upd col n c) (upd rk n 0) := by
  have old : ∀ k, k < n → upd par n n k = par k ∧ upd sz n 1 k = sz k ∧ upd col n c k = col k ∧ upd rk n 0 k = rk k := fun k hk => ⟨upd_other _ _ (by omega), upd_other _ _ (by omega), upd_other _ _ (by omega), upd_other _ _ (by omega)⟩
  have cl : ∀ k, k < n → cls (n + 1) (upd col n c) k = cls n col k := by
    intro k hk
    unfold cls
    rw [List.range_succ, List.countP_append, (old k hk).2.2.1]
    have e1 : (List.range n).countP (fun j => upd col n c j == col k) = (List.range n).countP (fun j => col j == col k) := by
      apply List.countP_congr
      intro j hj
      rw [(old j (List.mem_range.1 hj)).2.2.1]
    have e2 : [n].countP (fun j => upd col n c j == col k) = 0 := by
      simp [upd_same, Ne.symm (hc k hk)]
    rw [e1, e2, Nat.add_zero]
  have cn : cls (n + 1) (upd col n c) n = 1 := by
    unfold cls
    rw [List.range_succ, List.countP_append, upd_same]
    have e1 : (List.range n).countP (fun j => upd col n c j == c) = 0 := by
      rw [List.countP_eq_zero]
      intro j hj
      rw [(old j (List.mem_range.1 hj)).2.2.1]
      simp [hc j (List.mem_range.1 hj)]
    rw [e1]; simp [upd_same]
  have cases_ : ∀ i, i < n + 1 → i < n ∨ i = n := fun i hi => by omega
  refine ⟨fun i hi => ?_, fun i hi => ?_, fun i j hi hj pi pj e => ?_, fun i hi hp => ?_, fun i hi hp => ?_, fun i hi => ?_, fun i hi hp => ?_⟩
  · rcases cases_ i hi with h1 | rfl
    · rw [(old i h1).1]; have := h.lt i h1; omega
    · rw [upd_same]; omega
  · rcases cases_ i hi with h1 | rfl
    · rw [(old i h1).1, (old _ (h.lt i h1)).2.2.1, (old i h1).2.2.1]; exact h.colp i h1
    · rw [upd_same]
  · rcases cases_ i hi with h1 | rfl <;> rcases cases_ j hj with h2 | rfl
    · rw [(old i h1).1] at pi; rw [(old j h2).1] at pj; rw [(old i h1).2.2.1, (old j h2).2.2.1] at e; exact h.root i j h1 h2 pi pj e
    · rw [(old i h1).2.2.1, upd_same] at e; exact absurd e (hc i h1)
    · rw [(old j h2).2.2.1, upd_same] at e; exact absurd e.symm (hc j h2)
    · rfl
  · rcases cases_ i hi with h1 | rfl
    · rw [(old i h1).1] at hp ⊢; rw [(old i h1).2.2.2, (old _ (h.lt i h1)).2.2.2]; exact h.up i h1 hp
    · rw [upd_same] at hp; exact absurd rfl hp
  · rcases cases_ i hi with h1 | rfl
    · rw [(old i h1).1] at hp; rw [(old i h1).2.2.2, (old i h1).2.1]; exact h.big i h1 hp
    · rw [upd_same, upd_same]; exact Nat.le_refl _
  · rcases cases_ i hi with h1 | rfl
    · rw [(old i h1).2.2.2]; have := h.small i h1; omega
    · rw [upd_same]; simp
  · rcases cases_ i hi with h1 | rfl
    · rw [(old i h1).1] at hp; rw [(old i h1).2.1, cl i h1]; exact h.size i h1 hp
    · rw [upd_same, cn]
theorem Rings.add {n : Nat} {nx col : Nat → Nat} (h : Rings n nx col) (c : Nat) (hc : ∀ k, k < n → col k ≠ c) : Rings (n + 1) (upd nx n n) (upd col n c) := by
  intro i hi
  by_cases h1 : i < n
  · obtain ⟨L, h2, h3, h4, h5⟩ := h i h1
    refine ⟨L, h2.same fun k hk => upd_other _ _ (by have := ((h5 k).1 hk).1; omega), h3, h4, fun j => (h5 j).trans ?_⟩
    rw [upd_other col c (show i ≠ n by omega)]
    constructor
    · rintro ⟨hj, e⟩; exact ⟨by omega, by rw [upd_other _ _ (by omega)]; exact e⟩
    · rintro ⟨hj, e⟩
      by_cases hjn : j = n
      · subst hjn; rw [upd_same] at e; exact absurd e.symm (hc i h1)
      · rw [upd_other _ _ hjn] at e; exact ⟨by omega, e⟩
  · obtain rfl : i = n := by omega
    refine ⟨[i], .cons (by rw [upd_same]; exact .nil _), by simp, by simp, fun j => ?_⟩
    simp only [List.mem_singleton, upd_same]
    constructor
    · rintro rfl; exact ⟨hi, upd_same _ _ _⟩
    · rintro ⟨hj, e⟩
      by_cases hjn : j = i
      · exact hjn
      · rw [upd_other _ _ hjn] at e; exact absurd e (hc j (by omega))
theorem cnt_add {n : Nat} {col : Nat → Nat} (c : Nat) (hc : ∀ k, k < n → col k ≠ c) : cnt (n + 1) (upd col n c) = cnt n col + 1 := by
  rw [cnt_eq, cnt_eq, List.range_succ, List.countP_append]
  have e1 : (List.range n).countP (fst_ (upd col n c)) = (List.range n).countP (fst_ col) := by
    apply List.countP_congr
    intro k hk
    have hk := List.mem_range.1 hk
    rw [fst_iff, fst_iff]
    constructor
    · intro g j hj; have := g j hj; rwa [upd_other _ _ (by omega), upd_other _ _ (by omega)] at this
    · intro g j hj; rw [upd_other _ _ (by omega), upd_other _ _ (by omega)]; exact g j hj
  have e2 : [n].countP (fst_ (upd col n c)) = 1 := by
    have : fst_ (upd col n c) n = true := by
      rw [fst_iff]
      intro j hj
      rw [upd_same, upd_other _ _ (by omega)]
      exact hc j hj
    simp [this]
  rw [e1, e2]
theorem add_uf {S : Nat → Prop} {w : World} {b n : Nat} {col ro : Nat → Nat} {steps : Int} (h : UFo S w b n col ro steps) (hn : n < 1048576) (c : Nat) (hc : ∀ k, k < n → col k ≠ c) :
    Calls Try.prog 102 #[.pointer (some ⟨b, 0, none⟩)] w fun e w' => e = .returned (.int .i64 (n : Nat)) ∧ UFo (fun k => S k ∨ w.heap.size ≤ k) w' b (n + 1) (upd col n c) (upd ro n n) steps ∧ Else S w w' := by
  obtain ⟨A, Z, X, par, sz, nx, rk, h1, h2, h3, h4, h5⟩ := h
  have hct := cnt_le n col
  refine (add_fm h1 hn (by omega)).mono ?_
  rintro e w' ⟨rfl, ⟨A', Z', X', hf⟩, hE⟩
  refine ⟨rfl, ⟨A', Z', X', _, _, _, upd rk n 0, ?_, h2.add c hc, h3.add c hc, by omega, fun i hi => ?_⟩, hE⟩
  · have : ((cnt (n + 1) (upd col n c) : Nat) : Int) = (cnt n col : Nat) + 1 := by rw [cnt_add c hc]; omega
    rw [this]; exact hf
  · by_cases h6 : i = n
    · subst h6; rw [upd_same]; exact ⟨hi, upd_same _ _ _, rfl⟩
    · obtain ⟨g1, g2, g3⟩ := h5 i (by omega)
      rw [upd_other _ _ h6]
      exact ⟨by omega, by rw [upd_other _ _ (by omega)]; exact g2, by rw [upd_other _ _ (by omega), upd_other _ _ h6]; exact g3⟩
end Go.Proofs.Ytcaclgaaaanfnaa.Un
/- unify's laws: the right equations. -/
namespace Go.Proofs.Ytcaclgaaaanfnaa
open Go.RowKit
set_option maxRecDepth 100000
attribute [local go_sem] Oper.semAt_some
attribute [local go_sem ↓] builtin_app
/-- Whether both sides are right. -/
def rt1 (t : Ty1) : Bool := alone t.1 t.2.1 t.2.2.2.len && allAlone t.2.2.2.pre
def rtE (x : Eqn) : Bool := rt1 x.1 && rt1 x.2.1
def rights (l : List Eqn) : List Eqn := l.filter rtE
theorem rights_step (l : List Eqn) (j : Nat) (hj : j < l.length) : rights (l.take (j + 1)) = rights (l.take j) ++ if rtE l[j] = true then [l[j]] else [] := by
  unfold rights
  rw [List.take_add_one, List.getElem?_eq_getElem hj, List.filter_append]
  congr 1
  simp only [Option.toList_some, List.filter_cons, List.filter_nil]
theorem rights_len (l : List Eqn) : (rights l).length ≤ l.length := List.length_filter_le _ _
def eqR (l : List Eqn) : List Value := l.flatMap eqC
theorem eqR_len (l : List Eqn) : (eqR l).length = l.length * 8 := by
  induction l with
  | nil => rfl
  | cons x l ih =>
    unfold eqR at ih ⊢
    rw [List.flatMap_cons, List.length_append, ih, List.length_cons, Nat.succ_mul]
    simp only [eqC, List.length_cons, List.length_nil]
    omega
theorem eqR_app (l m : List Eqn) : eqR (l ++ m) = eqR l ++ eqR m := by simp [eqR]
theorem eqR_get {l : List Eqn} {i : Nat} (hi : i < l.length) (o : Nat) (ho : o < 8) : (eqR l)[i * 8 + o]? = (eqC l[i])[o]? := by
  induction l generalizing i with
  | nil => simp at hi
  | cons x l ih =>
    have e : eqR (x :: l) = eqC x ++ eqR l := by simp [eqR]
    rw [e]
    have hx : (eqC x).length = 8 := rfl
    cases i with
    | zero =>
      rw [List.getElem?_append_left (by omega)]
      simp
    | succ i =>
      rw [List.getElem?_append_right (by omega), hx, show (i + 1) * 8 + o - 8 = i * 8 + o by omega]
      simp only [List.length_cons] at hi
      rw [ih (by omega)]
      simp
theorem eqInfo : (Try.prog.info? 40).map (fun i => (i.zero, i.size, i.bytes)) = some (some (.agg #[.int .i64 0, .int .i64 0, .slice none 0 0, .int .i64 0, .int .i64 0, .slice none 0 0, .int .i64 0, .int .i64 0]), 8, 96) := by kernel_rfl
theorem app_eq (W : World) (v : Value) (l : List Eqn) (base : Nat) (hb : base ≤ W.heap.size) (hown : W.ownsRow base 40 8 v l.length (eqR l)) (x : Eqn) (hm : l.length ≤ 100000) :
    ∃ g cp w1, (app_ #[22, 22] 22 #[v, .slice (some ⟨W.heap.size, 0, none⟩) 1 1]).run Try.prog (W.alloc (.cells (eqC x).toArray 40)) = .ok (.slice (some ⟨g, 0, none⟩) (l.length + 1) cp) w1 ∧
      w1.ownsRow base 40 8 (.slice (some ⟨g, 0, none⟩) (l.length + 1) cp) (l ++ [x]).length (eqR (l ++ [x])) ∧ (W.alloc (.cells (eqC x).toArray 40)).grownBy w1 v.ownBlock := by
  obtain ⟨i0, hi0, hz0, hz1, hz2⟩ := Un.info_parts eqInfo
  have rd1 : Rd (W.alloc (.cells (eqC x).toArray 40)) 8 (.slice (some ⟨W.heap.size, 0, none⟩) 1 1) 1 (eqC x) := rd_new W (eqC x) 40 8 1 rfl (by unfold maxLen; omega)
  obtain ⟨v', w1, hrun, hown1, hg1, hat⟩ := run_append_rd (P := Try.prog) _ base 22 22 40 i0 _ 8 96 Try.underlying22 hi0 hz0 hz1 hz2 rfl (by omega) v l.length (eqR l) (hown.alloc _) _ 1 _ rd1 (by intro y hy; simp only [eqC, slv, List.mem_cons, List.not_mem_nil, or_false] at hy; rcases hy with rfl | rfl | rfl | rfl | rfl | rfl | rfl | rfl <;> rfl) (by unfold maxLen; omega) (by omega) (by simp; omega)
  obtain ⟨g, cp, rfl, _, _⟩ := Un.own_shape hown1 (by omega)
  refine ⟨g, cp, w1, hrun, ?_, hg1⟩
  rw [eqR_app, List.length_append]
  exact hown1
/-- What comes of Rights, as it lies. -/
theorem EqV.of_own {w : World} {l : List Eqn} {v : Value} {B : Nat} (h : w.ownsRow B 40 8 v l.length (eqR l)) (ht : ∀ x ∈ l, EqT w.heap.size w x) : EqV w.heap.size w l v := by
  by_cases h0 : 0 < l.length
  · obtain ⟨g, c, rfl, hc, hg⟩ := Un.own_shape h h0
    obtain ⟨_, _, e, _, hcm⟩ := Un.own_form h
    cases e
    refine ⟨_, _, rfl, fun _ => ⟨g, 0, rfl, hg, hc, hcm, fun i hi => ?_⟩, ht⟩
    have hl := eqR_len l
    have hc8 : (eqC l[i]).length = 8 := rfl
    have k : ∀ o, (ho : o < 8) → w.cell? ⟨g, 0 + i * 8 + o, none⟩ = (eqC l[i])[o]? := fun o ho => by
      rw [Nat.zero_add, h.cellAt (i * 8 + o) (by omega)]
      exact eqR_get hi o ho
    exact ⟨k 0 (by omega), k 1 (by omega), k 2 (by omega), k 3 (by omega), k 4 (by omega), k 5 (by omega), k 6 (by omega), k 7 (by omega)⟩
  · have : l = [] := List.eq_nil_of_length_eq_zero (by omega)
    subst this
    obtain ⟨A, c, rfl, _, _⟩ := Un.own_form h
    exact ⟨A, c, rfl, fun h => absurd h h0, ht⟩
theorem size_of_esz {l : List Eqn} {x : Eqn} (hx : x ∈ l) : x.1.2.2.2.size ≤ esz l ∧ x.2.1.2.2.2.size ≤ esz l := by
  induction l with
  | nil => cases hx
  | cons y l ih =>
    have e : esz (y :: l) = sz1 y + esz l := by simp [esz]
    rcases List.mem_cons.1 hx with rfl | hx
    · rw [e]; unfold sz1; omega
    · have := ih hx
      rw [e]; omega
set_option maxHeartbeats 4000000 in
theorem rights12_any (w : World) (l : List Eqn) (v : Value) (h : EqV w.heap.size w l v) (hl : l.length ≤ 20) (hs : esz l ≤ 160) :
    Calls Try.prog 13 #[v] w fun e w' => ∃ v', e = .returned v' ∧ EqV w'.heap.size w' (rights l) v' ∧ Below w.heap.size w w' := by
  obtain ⟨A, c, rfl⟩ := h.form
  have H := Lib.hid h
  clear h
  go_enter Try.func13, Try.ntmps13
  go_wp2_with fail
  go_loopw [3, 4] (fun s t wr => ∃ (j : Nat), t = .int .i64 (j : Nat) ∧ j ≤ l.length ∧ wr.ownsRow w.heap.size 40 8 s (rights (l.take j)).length (eqR (rights (l.take j))) ∧ Below w.heap.size w wr) (fun _ t _ => l.length - (intOf t).toNat)
  case atStart => exact ⟨0, rfl, Nat.zero_le _, World.ownsRow_nil _ _ _ _, Below.refl _ _⟩
  case round =>
    obtain ⟨j, rfl, hj, hown, hb⟩ := hrel
    obtain ⟨A', c', rfl, _, _⟩ := Un.own_form hown
    have hrl : (rights (l.take j)).length ≤ 20 := by have := rights_len (l.take j); rw [List.length_take] at this; omega
    obtain ⟨m, hm⟩ : ∃ m, (rights (l.take j)).length = m := ⟨_, rfl⟩
    have HB := Lib.hid (And.intro hb (And.intro hown hm))
    rw [hm] at hrl ⊢
    clear hb hown hm
    by_cases hjl : j < l.length
    · have f1 : decide ((j : Int) < (l.length : Int)) = true := decide_eq_true (by omega)
      obtain ⟨b, off, rfl, hat, hty⟩ := H.out.here HB.out.1 j hjl
      have hsz := size_of_esz (List.getElem_mem hjl)
      obtain ⟨x, hx⟩ : ∃ x, l[j] = x := ⟨_, rfl⟩
      rw [hx] at hat hty hsz
      obtain ⟨⟨k0, n0, ⟨u1, u2, u3⟩, F⟩, ⟨k1, n1, ⟨v1, v2, v3⟩, F'⟩, a0, a1⟩ := x
      obtain ⟨x0, x1, x2, x3, x4, x5, _, _⟩ := hat
      have hR := rright_any (F.size + 1) F k0 n0 (slv (u1, u2, u3)) wr (by omega) (by have h9 : F.size ≤ esz l := hsz.1; omega) hty.1
      obtain ⟨r1, hr1⟩ : ∃ z, (alone k0 n0 F.len && allAlone F.pre) = z := ⟨_, rfl⟩
      rw [hr1] at hR
      have HR := Lib.hid hR
      have HX := Lib.hid (And.intro hx (And.intro hsz hr1))
      dsimp only [slv, tyVal] at x0 x1 x2 x3 x4 x5 HR
      clear hx hsz hr1 hR hty x3 x4 x5
      go_wp2_with fail
      refine HR.out.mono ?_
      rintro e w2 ⟨rfl, hb2⟩
      have hb2' : Below w.heap.size w w2 := HB.out.1.trans (hb2.mono HB.out.1.size)
      have hown2 := own_below HB.out.2.1 hb2
      have HB2 := Lib.hid (And.intro hb2' hown2)
      clear HR x0 x1 x2 hown2
      cases r1 with
      | false =>
        have hrt : rtE l[j] = false := by rw [HX.out.1]; show (rt1 _ && rt1 _) = false; rw [show rt1 (k0, n0, (u1, u2, u3), F) = false from HX.out.2.2]; rfl
        clear hb2 hb2'
        go_wp2_with fail
        have hst := rights_step l j hjl
        rw [hrt, if_neg (by decide), List.append_nil] at hst
        refine ⟨⟨j + 1, congrArg (Value.int .i64) (by omega), by omega, ?_, HB2.out.1⟩, ?_⟩
        · rw [hst, ← HB.out.2.2]
          exact HB2.out.2
        · show l.length - (intOf (.int .i64 ((j : Int) + 1))).toNat < l.length - (intOf (.int .i64 (j : Nat))).toNat
          simp only [intOf]
          omega
      | true =>
        obtain ⟨_, _, e1, hat2, hty2⟩ := H.out.here hb2' j hjl
        cases e1
        rw [HX.out.1] at hat2 hty2
        obtain ⟨y0, y1, y2, y3, y4, y5, y6, y7⟩ := hat2
        have hR := rright_any (F'.size + 1) F' k1 n1 (slv (v1, v2, v3)) w2 (by omega) (by have h9 : F'.size ≤ esz l := HX.out.2.1.2; omega) hty2.2
        obtain ⟨r2, hr2⟩ : ∃ z, (alone k1 n1 F'.len && allAlone F'.pre) = z := ⟨_, rfl⟩
        rw [hr2] at hR
        have HR := Lib.hid hR
        have HX2 := Lib.hid hr2
        dsimp only [slv, tyVal] at y0 y1 y2 y3 y4 y5 y6 y7 HR
        have y4' : w2.cell? ⟨b, off + j * 8 + 3 + 1, none⟩ = some (.int .i64 n1) := y4
        have y5' : w2.cell? ⟨b, off + j * 8 + 3 + 2, none⟩ = some (.slice v1 v2 v3) := y5
        clear hty2 hr2 hR hb2 hb2' y0 y1 y2 y6 y7
        go_wp2_with fail
        refine HR.out.mono ?_
        rintro e w3 ⟨rfl, hb3⟩
        have hb3' : Below w.heap.size w w3 := HB2.out.1.trans (hb3.mono HB2.out.1.size)
        have hown3 := own_below HB2.out.2 hb3
        have HB3 := Lib.hid (And.intro hb3' hown3)
        clear HR y3 y4 y5 y4' y5' hb3
        cases r2 with
        | false =>
          have hrt : rtE l[j] = false := by rw [HX.out.1]; show (rt1 _ && rt1 _) = false; rw [show rt1 (k1, n1, (v1, v2, v3), F') = false from HX2.out]; simp
          clear hb3' hown3
          go_wp2_with fail
          have hst := rights_step l j hjl
          rw [hrt, if_neg (by decide), List.append_nil] at hst
          refine ⟨⟨j + 1, congrArg (Value.int .i64) (by omega), by omega, ?_, HB3.out.1⟩, ?_⟩
          · rw [hst, ← HB.out.2.2]
            exact HB3.out.2
          · show l.length - (intOf (.int .i64 ((j : Int) + 1))).toNat < l.length - (intOf (.int .i64 (j : Nat))).toNat
            simp only [intOf]
            omega
        | true =>
          have hrt : rtE l[j] = true := by rw [HX.out.1]; show (rt1 _ && rt1 _) = true; rw [show rt1 (k0, n0, (u1, u2, u3), F) = true from HX.out.2.2, show rt1 (k1, n1, (v1, v2, v3), F') = true from HX2.out]; rfl
          obtain ⟨_, _, e1, hat3, _⟩ := H.out.here hb3' j hjl
          cases e1
          rw [HX.out.1] at hat3
          obtain ⟨z0, z1, z2, z3, z4, z5, z6, z7⟩ := hat3
          dsimp only [slv] at z0 z1 z2 z3 z4 z5 z6 z7
          rw [HB.out.2.2] at hown3
          obtain ⟨g, cp, w4, hrun, hown4, hgr⟩ := app_eq w3 (.slice A' m c') (rights (l.take j)) w.heap.size hb3'.size (by rw [HB.out.2.2]; exact hown3) ((k0, n0, (u1, u2, u3), F), (k1, n1, (v1, v2, v3), F'), a0, a1) (by rw [HB.out.2.2]; omega)
          rw [HB.out.2.2] at hrun hown4
          have hrun' : (app_ #[22, 22] 22 #[.slice A' m c', .slice (some ⟨w3.heap.size, 0, none⟩) 1 1]).run Try.prog (w3.alloc (.cells #[.int .i64 k0, .int .i64 n0, .slice u1 u2 u3, .int .i64 k1, .int .i64 n1, .slice v1 v2 v3, .int .i64 a0, .int .i64 a1] 40)) = .ok (.slice (some ⟨g, 0, none⟩) (m + 1) cp) w4 := hrun
          have hb4 : Below w.heap.size w w4 := by
            have hE := ((Un.Else.alloc (fun i => (Value.slice A' m c').ownBlock = some i) w3 _).trans (Un.Else.grown hgr fun i hi => hi))
            exact hb3'.trans (hE.below (fun i hi => (hown3.lt i hi).1) hb3'.size)
          have HB4 := Lib.hid (And.intro hb4 hown4)
          clear hrun hown4 hgr hb4 hown3 hb3'
          go_wp2_with fail
          have hst := rights_step l j hjl
          rw [hrt, if_pos rfl, HX.out.1] at hst
          refine ⟨⟨j + 1, congrArg (Value.int .i64) (by omega), by omega, ?_, HB4.out.1⟩, ?_⟩
          · rw [hst]
            exact HB4.out.2
          · show l.length - (intOf (.int .i64 ((j : Int) + 1))).toNat < l.length - (intOf (.int .i64 (j : Nat))).toNat
            simp only [intOf]
            omega
    · have f1 : decide ((j : Int) < (l.length : Int)) = false := decide_eq_false (by omega)
      go_wp2_with fail
      have hjj : j = l.length := by omega
      have h3 := HB.out.2.1
      have hm := HB.out.2.2
      rw [hjj, List.take_length] at h3 hm
      rw [hm] at h3
      refine bodyPost_ret (results_tmp rfl _ _ _) rfl ⟨_, rfl, EqV.of_own (by rw [hm]; exact h3) fun x hx => ?_, HB.out.1⟩
      have hxl : x ∈ l := (List.mem_filter.1 hx).1
      obtain ⟨i, hi, rfl⟩ := List.mem_iff_getElem.1 hxl
      exact (H.out.later HB.out.1).ty i hi
end Go.Proofs.Ytcaclgaaaanfnaa
/- Worlds in which blocks between two bounds turn. -/
namespace Go.Proofs.Ytcaclgaaaanfnaa
open Go.RowKit
/-- What turns lies in between. -/
structure Btw (B H : Nat) (W W' : World) : Prop where
  os : W'.os = W.os
  tape : W'.tape = W.tape
  output : W'.output = W.output
  size : W.heap.size ≤ W'.heap.size
  block : ∀ b, (b < B ∨ H ≤ b) → b < W.heap.size → W'.heap[b]? = W.heap[b]?
theorem Btw.refl (B H : Nat) (W : World) : Btw B H W W := ⟨rfl, rfl, rfl, Nat.le_refl _, fun _ _ _ => rfl⟩
theorem Btw.below {B H : Nat} {W W' : World} (h : Btw B H W W') (hB : B ≤ W.heap.size) : Below B W W' := ⟨h.os, h.tape, h.output, h.size, fun b hb => h.block b (.inl hb) (by omega)⟩
theorem Btw.trans {B H : Nat} {a b c : World} (x : Btw B H a b) (y : Btw B H b c) : Btw B H a c :=
  ⟨y.os.trans x.os, y.tape.trans x.tape, y.output.trans x.output, Nat.le_trans x.size y.size, fun k hk hl => (y.block k hk (by have := x.size; omega)).trans (x.block k hk hl)⟩
theorem Btw.of_below {B H : Nat} {W W' : World} (h : Below W.heap.size W W') : Btw B H W W' := ⟨h.os, h.tape, h.output, h.size, fun b _ hl => h.block b hl⟩
theorem Btw.row {B H : Nat} {W W' : World} {base size n : Nat} {e : TypeId} {v : Value} {xs : List Value} (h : Btw B H W W') (hH : H ≤ base) (o : W.ownsRow base e size v n xs) : W'.ownsRow base e size v n xs := by
  refine ⟨o.1, ?_⟩
  rcases o.2 with h2 | ⟨g, cap, cur, hv, hg, hh, r⟩
  · exact .inl h2
  · exact .inr ⟨g, cap, cur, hv, hg, (h.block g (.inr (by omega)) (Array.getElem?_eq_some_iff.1 hh).1).trans hh, r⟩
/-- What turns lies in between, or was laid from M on and is cells. -/
structure Bt3 (B H M : Nat) (W W' : World) : Prop where
  os : W'.os = W.os
  tape : W'.tape = W.tape
  output : W'.output = W.output
  size : W.heap.size ≤ W'.heap.size
  block : ∀ b, (b < B ∨ (H ≤ b ∧ b < M)) → b < W.heap.size → W'.heap[b]? = W.heap[b]?
  same : ∀ b o, M ≤ b → W.heap[b]? = some o → o.isCells = false → W'.heap[b]? = some o
theorem Bt3.refl (B H M : Nat) (W : World) : Bt3 B H M W W := ⟨rfl, rfl, rfl, Nat.le_refl _, fun _ _ _ => rfl, fun _ _ _ h _ => h⟩
theorem Bt3.below {B H M : Nat} {W W' : World} (h : Bt3 B H M W W') (hB : B ≤ W.heap.size) : Below B W W' := ⟨h.os, h.tape, h.output, h.size, fun b hb => h.block b (.inl hb) (by omega)⟩
theorem Bt3.trans {B H M : Nat} {a b c : World} (x : Bt3 B H M a b) (y : Bt3 B H M b c) : Bt3 B H M a c :=
  ⟨y.os.trans x.os, y.tape.trans x.tape, y.output.trans x.output, Nat.le_trans x.size y.size, fun k hk hl => (y.block k hk (by have := x.size; omega)).trans (x.block k hk hl), fun k o hk ho hc => y.same k o hk (x.same k o hk ho hc) hc⟩
theorem Bt3.of_below {B H M : Nat} {W W' : World} (h : Below W.heap.size W W') : Bt3 B H M W W' :=
  ⟨h.os, h.tape, h.output, h.size, fun b _ hl => h.block b hl, fun b _ _ ho _ => (h.block b (Array.getElem?_eq_some_iff.1 ho).1).trans ho⟩
end Go.Proofs.Ytcaclgaaaanfnaa
