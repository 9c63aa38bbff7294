/- Texts of one proof, one behind the other. -/
import Derived.Test.YtifdbmdfkhnojaaDoorMgSubstAlike15
import Derived.Test.YtifdbmdfkhnojaaDoorMgSubstAlike16
import Derived.Lib.OthersKept
/- types.Print: what stands between the rounds; the marks of the loop's ranges. -/
namespace Go.Proofs.YtifdbmdfkhnojaaDoor
open Go.RowKit Go.Shelf

/-- A mark that a range over a function leaves. -/
def mark (r : Nat) : Deferred := { target := .collected r, args := #[] }
/-- A builder stands where its own block and the rows of bytes stand. -/
theorem builder_kept {B b : Nat} {bs : List Value} {W W' : World} (h : Lib.IsBuilderF 82 5 B b bs W)
    (hk : ∀ (k : Nat) (cs : Array Value) (t : TypeId) (fz : Nat × Nat), t = 82 ∨ t = 5 → W.heap[k]? = some (Obj.cells cs t fz) → W'.heap[k]? = some (Obj.cells cs t fz)) : Lib.IsBuilderF 82 5 B b bs W' := by
  have one : ∀ p, Lib.BuilderAtF 82 5 B b p bs W → Lib.BuilderAtF 82 5 B b p bs W' := by
    rintro p ⟨hB, v, hb, hown, hne⟩
    refine ⟨hB, v, hk _ _ _ _ (.inl rfl) hb, ⟨hown.1, ?_⟩, hne⟩
    rcases hown.2 with h | ⟨g, cap, cur, fz, h1, h2, h3, h4⟩
    · exact .inl h
    · exact .inr ⟨g, cap, cur, fz, h1, h2, hk _ _ _ _ (.inr rfl) h3, h4⟩
  exact h.elim (fun x => .inl (one _ x)) (fun x => .inr (one _ x))
/-- What stands. -/
structure PrI (w : World) (Bb b4 : Nat) (v : Value) (L : List Pc) (acc : List UInt8) (rs : List Nat) (W : World) : Prop where
  box : Boxed W b4 85 v
  row : W.ownsRow Bb 84 4 v L.length (L.flatMap pcC)
  bld : Lib.IsBuilderF 82 5 Bb Bb (Lib.byteCells acc) W
  marks : ∀ r ∈ rs, W.heap[r]? = some (Obj.deferred (some []))
  bel : Below w.heap.size w W
theorem row_kept {W W' : World} {base : Nat} {e : TypeId} {size : Nat} {v : Value} {n : Nat} {xs : List Value} (h : W.ownsRow base e size v n xs) (hk : ∀ (k : Nat) (cs : Array Value), W.heap[k]? = some (Obj.cells cs e) → W'.heap[k]? = some (Obj.cells cs e)) : W'.ownsRow base e size v n xs := by
  refine ⟨h.1, ?_⟩
  rcases h.2 with h0 | ⟨g, cap, cur, h1, h2, h3, h4⟩
  · exact .inl h0
  · exact .inr ⟨g, cap, cur, h1, h2, hk _ _ h3, h4⟩
/-- Another list, in another row or the same; the rest as it is. -/
theorem PrI.turn {w : World} {Bb b4 : Nat} {v v' : Value} {L L' : List Pc} {acc : List UInt8} {rs : List Nat} {W W' : World} (h : PrI w Bb b4 v L acc rs W) (hbox : Boxed W' b4 85 v') (hrow : W'.ownsRow Bb 84 4 v' L'.length (L'.flatMap pcC))
    (hk : ∀ (k : Nat) (cs : Array Value) (t : TypeId) (fz : Nat × Nat), t = 82 ∨ t = 5 → W.heap[k]? = some (Obj.cells cs t fz) → W'.heap[k]? = some (Obj.cells cs t fz)) (hm : ∀ r ∈ rs, W.heap[r]? = some (Obj.deferred (some [])) → W'.heap[r]? = some (Obj.deferred (some []))) (hb : Below w.heap.size W W') : PrI w Bb b4 v' L' acc rs W' :=
  ⟨hbox, hrow, builder_kept h.bld hk, fun r hr => hm r hr (h.marks r hr), h.bel.trans hb⟩
theorem PrI.below {w : World} {Bb b4 : Nat} {v : Value} {L : List Pc} {acc : List UInt8} {rs : List Nat} {W W' : World} (h : PrI w Bb b4 v L acc rs W) (hb : Below W.heap.size W W') : PrI w Bb b4 v L acc rs W' := by
  have k : ∀ (b : Nat) (o : Obj), W.heap[b]? = some o → W'.heap[b]? = some o := fun b o ho => (hb.block b (Array.getElem?_eq_some_iff.1 ho).1).trans ho
  exact h.turn (k _ _ h.box) (row_kept h.row fun _ _ hc => k _ _ hc) (fun _ _ _ _ _ hc => k _ _ hc) (fun _ _ hr => k _ _ hr) (hb.mono h.bel.size)
theorem PrI.own {w : World} {Bb b4 : Nat} {v : Value} {L : List Pc} {acc : List UInt8} {rs : List Nat} {W W' : World} {B : Nat} (h : PrI w Bb b4 v L acc rs W) (hwB : w.heap.size ≤ B) (hrs : ∀ r ∈ rs, r < B) (hs : W.heap.size ≤ W'.heap.size) (row : Option Nat) (hg : W.grownBy W' row) (hr : ∀ r, row = some r → B ≤ r ∧ ∃ o : Obj, W.heap[r]? = some o ∧ o.isCells = false) : PrI w Bb b4 v L acc rs W' := by
  have k : ∀ (b : Nat) (o : Obj), W.heap[b]? = some o → o.isCells = true ∨ b < B → W'.heap[b]? = some o := by
    intro b o ho hx
    refine (hg.block b (Array.getElem?_eq_some_iff.1 ho).1 fun e => ?_).trans ho
    obtain ⟨h1, o', h2, h3⟩ := hr b e.symm
    rcases hx with hx | hx
    · rw [ho] at h2; injection h2 with h2; subst h2; rw [hx] at h3; cases h3
    · omega
  refine h.turn (k _ _ h.box (.inl rfl)) (row_kept h.row fun _ _ hc => k _ _ hc (.inl rfl)) (fun _ _ _ _ _ hc => k _ _ hc (.inl rfl)) (fun r hr' hc => k _ _ hc (.inr (hrs r hr'))) ?_
  exact ⟨hg.os, hg.tape, hg.output, hs, fun b hb => hg.block b (Nat.lt_of_lt_of_le hb h.bel.size) (fun e => by have := (hr b e.symm).1; omega)⟩
/-- Behind a text that is written. -/
theorem PrI.wrote {w : World} {Bb b4 : Nat} {v : Value} {L : List Pc} {acc s : List UInt8} {rs : List Nat} {W W' : World} (h : PrI w Bb b4 v L acc rs W) (hB : w.heap.size ≤ Bb) (hb4 : b4 ≠ Bb) (hrs : ∀ r ∈ rs, r ≠ Bb) (hbd : Lib.BuilderAtF 82 5 Bb Bb (.pointer (some ⟨Bb, 0, none⟩)) (Lib.byteCells acc ++ Lib.strCells ⟨s.toArray⟩) W') (hb : Below Bb W W') (ho : Lib.OthersKept 5 (some Bb) W W') : PrI w Bb b4 v L (acc ++ s) rs W' := by
  refine ⟨ho _ _ h.box (by simpa using hb4) (by intro c fz e; cases e), ?_, ?_, fun r hr => ho _ _ (h.marks r hr) (by simpa using hrs r hr) (by intro c fz e; cases e), h.bel.trans (hb.mono hB)⟩
  · refine ⟨h.row.1, ?_⟩
    rcases h.row.2 with h0 | ⟨g, cap, cur, h1, h2, h3, h4⟩
    · exact .inl h0
    · refine .inr ⟨g, cap, cur, h1, h2, ho _ _ h3 ?_ (by intro c fz e; cases e), h4⟩
      intro e
      injection e with e
      rcases h.bld with ⟨_, _, hb, _⟩ | ⟨_, _, hb, _⟩ <;> (rw [← e, h3] at hb; cases hb)
  · refine .inr ?_
    have e : Lib.byteCells (acc ++ s) = Lib.byteCells acc ++ Lib.strCells ⟨s.toArray⟩ := by rw [Lib.byteCells_append]; rfl
    rw [e]; exact hbd
/-- The marks are taken one by one as the function ends. -/
theorem leaves_marks {P : Program} {F : Fence} {n : Nat} {fn : Func} {tmps : Array Value} {R : Ending → World → Prop} (rs : List Nat) (w : World) (hnd : rs.Nodup) (hm : ∀ r ∈ rs, w.heap[r]? = some (Obj.deferred (some [])))
    (hfin : ∀ w' : World, w'.heap.size = w.heap.size → w'.os = w.os → w'.tape = w.tape → w'.output = w.output → (∀ k, k ∉ rs → w'.heap[k]? = w.heap[k]?) → LeavesInM F n P fn tmps R [] .returning w') : LeavesInM F n P fn tmps R (rs.map mark) .returning w := by
  induction rs generalizing w with
  | nil => exact hfin w rfl rfl rfl rfl fun _ _ => rfl
  | cons r rs ih =>
    have h0 := hm r List.mem_cons_self
    have hne := (List.nodup_cons.1 hnd).1
    have hgp := grownBy_putObj' w r (.deferred none)
    have hsz : (w.putObj r (.deferred none)).heap.size = w.heap.size := by simp [World.putObj]
    refine ⟨by simp, .inl ⟨r, _, rfl, run_takeDeferred h0, ih _ (List.nodup_cons.1 hnd).2 (fun k hk => ?_) fun w' h1 h2 h3 h4 h5 => ?_⟩⟩
    · have hkr : k ≠ r := by rintro rfl; exact hne hk
      have hk0 := hm k (List.mem_cons_of_mem _ hk)
      exact (hgp.block k (Array.getElem?_eq_some_iff.1 hk0).1 (by simpa using hkr)).trans hk0
    · refine hfin w' (h1.trans hsz) (h2.trans hgp.os) (h3.trans hgp.tape) (h4.trans hgp.output) fun k hk => ?_
      simp only [List.mem_cons, not_or] at hk
      refine (h5 k hk.2).trans ?_
      simp only [World.putObj]
      rw [Array.getElem?_setIfInBounds_ne (by omega)]
/-- The length of texts. -/
theorem sepT_len (l : List (Int × List UInt8)) : (sepT l).length ≤ (l.map fun x => x.2.length + 5).sum := by
  induction l with
  | nil => simp [sepT]
  | cons x l ih =>
    have hb : (brk x).length ≤ x.2.length + 2 := by unfold brk; split <;> simp
    cases l with
    | nil => simp [sepT]; omega
    | cons y r =>
      simp only [sepT, List.length_append, List.length_cons, List.map_cons, List.sum_cons] at ih ⊢
      omega
theorem oneT_len (k n : Int) (l : List (Int × List UInt8)) : (oneT k n l).length ≤ 40 + (l.map fun x => x.2.length + 5).sum := by
  unfold oneT
  split
  · have := nameB_len n; omega
  split
  · simp; omega
  split
  · simp; omega
  split
  · split
    · rename_i x y
      have hb : (brk x).length ≤ x.2.length + 2 := by unfold brk; split <;> simp
      simp; omega
    · simp
  split
  · have := sepT_len l
    simp; omega
  · simp
theorem txts_len (f : Fo) : (f.txts.map fun x => x.2.length + 5).sum ≤ 48 * f.size := by
  induction f with
  | nil => simp [Fo.txts]
  | cons k n u ps r ih1 ih2 =>
    have := oneT_len k n ps.txts
    simp only [Fo.txts, List.map_cons, List.sum_cons, Fo.size]
    omega
theorem pw_pos (p : Pc) : 1 ≤ pw p := by unfold pw; split <;> omega
theorem pws_len (L : List Pc) : L.length ≤ pws L := by
  induction L with
  | nil => simp
  | cons x l ih => have := pw_pos x; simp only [pws, List.map_cons, List.sum_cons, List.length_cons] at ih ⊢; omega
/-- Whether a type is right is what its preorder says. -/
theorem allAlone_app (a b : List Tr) : allAlone (a ++ b) = (allAlone a && allAlone b) := by simp [allAlone]
theorem allAlone_ok {B : Nat} {w : World} (f : Fo) (h : TyL B w f) : allAlone f.pre = f.ok := by
  induction f with
  | nil => rfl
  | cons k n u ps r ih1 ih2 =>
    obtain ⟨A, c, hs⟩ := h.1.slice
    have hu : u.2.1 = ps.len := by
      obtain ⟨u1, u2, u3⟩ := u
      unfold slv at hs
      injection hs
    have e : (Fo.cons k n u ps r).pre = (k, n, u) :: (ps.pre ++ r.pre) := rfl
    have e2 : allAlone ((k, n, u) :: (ps.pre ++ r.pre)) = (alone k n u.2.1 && allAlone (ps.pre ++ r.pre)) := by simp [allAlone]
    rw [e, e2, allAlone_app, ih1 h.1.list, ih2 h.2, hu, Fo.ok, Bool.and_assoc]
theorem mark_inj {a b : List Nat} (h : a.map mark = b.map mark) : a = b := by
  induction a generalizing b with
  | nil => cases b <;> simp_all
  | cons x a ih =>
    cases b with
    | nil => simp at h
    | cons y b =>
      simp only [List.map_cons, List.cons.injEq] at h
      have hxy : x = y := by
        have := h.1
        simp only [mark] at this
        injection this with this
        injection this
      rw [hxy, ih h.2]
theorem PrI.ab {w : World} {Bb b4 : Nat} {v : Value} {L : List Pc} {acc : List UInt8} {rs : List Nat} {W W' : World} {B : Nat} (h : PrI w Bb b4 v L acc rs W) (hwB : w.heap.size ≤ B) (hc : CStep B 79 W W') : PrI w Bb b4 v L acc rs W' := by
  have hb := hc.below hwB h.bel.size
  obtain ⟨row, hg, hr⟩ := hc
  have k : ∀ (b : Nat) (o : Obj), W.heap[b]? = some o → (∀ cs, o ≠ Obj.cells cs 79) → W'.heap[b]? = some o := by
    intro b o ho hx
    refine (hg.block b (Array.getElem?_eq_some_iff.1 ho).1 fun e => ?_).trans ho
    obtain ⟨_, cs, h2⟩ := hr b e.symm
    rw [ho] at h2; injection h2 with h2
    exact hx cs h2
  refine h.turn (k _ _ h.box (by intro cs e; injection e with _ e; exact absurd e (by decide))) (row_kept h.row fun _ _ hc => k _ _ hc (by intro cs e; injection e with _ e; exact absurd e (by decide))) (fun _ _ t _ ht hc => k _ _ hc (by
    intro cs e
    injection e with _ e
    rcases ht with h | h <;> (rw [h] at e; exact absurd e (by decide)))) (fun r hr' hc => k _ _ hc (by intro cs e; cases e)) hb
/-- A round of the inner loop, put together. -/
theorem pr_fin {w : World} {Bb b4 gp Bs : Nat} {vt v' : Value} {L : List Pc} {x : Pc} {acc : List UInt8} {rs : List Nat} {W W2 : World} {C : Obj} (h : PrI w Bb b4 vt L acc rs W) (hwB : w.heap.size ≤ Bb) (hb4 : Bb < b4) (hg : (W.alloc C).grownBy W2 vt.ownBlock)
    (hown : W2.ownsRow Bb 84 4 v' (L ++ [x]).length ((L ++ [x]).flatMap pcC)) (hgp : ∀ r, vt.ownBlock = some r → r ≠ gp) (hbs4 : Bs ≠ b4) (hgp4 : gp ≠ b4) (hBs : ∃ vb, Boxed W Bs 85 vb) (hgl : gp < W.heap.size) (hat : v'.ownBlock = vt.ownBlock ∨ v'.ownBlock = some (W.alloc C).heap.size) (B0 : Nat) (hbB : b4 < B0) :
    KeepsFrom B0 W (W2.setCell ⟨b4, 0, none⟩ v') ∧ KpQ [gp, Bs] W (W2.setCell ⟨b4, 0, none⟩ v') ∧ PrI w Bb b4 v' (L ++ [x]) acc rs (W2.setCell ⟨b4, 0, none⟩ v') ∧ (∀ r, v'.ownBlock = some r → r ≠ gp) ∧ Below Bb W (W2.setCell ⟨b4, 0, none⟩ v') := by
  have hrow := row_not h.row (T := 85) (by decide)
  have all : ∀ (b : Nat) (o : Obj), W.heap[b]? = some o → some b ≠ vt.ownBlock → b ≠ b4 → (W2.setCell ⟨b4, 0, none⟩ v').heap[b]? = some o := by
    intro b o ho hne hb
    have hl := (Array.getElem?_eq_some_iff.1 ho).1
    rw [Below.heap_setCell _ _ _ _ (by simpa using hb), hg.block b (by simp; omega) hne, Below.heap_alloc _ _ _ hl, ho]
  have hsz : W.heap.size ≤ W2.heap.size := by have := hg.size; simp at this; omega
  have hbox2 : Boxed W2 b4 85 vt := (hg.block b4 (by simp; have := h.box.lt; omega) (h.box.not_row (by decide) h.row)).trans ((Below.heap_alloc _ _ _ h.box.lt).trans h.box)
  have hbel : Below Bb W (W2.setCell ⟨b4, 0, none⟩ v') := by
    have hW : Bb ≤ W.heap.size := by have := h.box.lt; omega
    have h1 : Below Bb W W2 := ((Below.refl _ W).alloc hW C).trans ((Below.refl _ _).grown hg (by simp; omega) (fun k e => (h.row.lt k e).1))
    exact h1.setCell (p := ⟨b4, 0, none⟩) (by simp only; omega) v'
  have cells_ne : ∀ (b : Nat) (cs : Array Value) (t : TypeId) (fz : Nat × Nat), t ≠ 84 → W.heap[b]? = some (Obj.cells cs t fz) → some b ≠ vt.ownBlock := by
    intro b cs t fz ht hb e
    rcases h.row.2 with ⟨h0, _⟩ | ⟨g, cap, cur, h0, _, hgg, _⟩
    · rw [h0] at e; cases e
    · rw [h0] at e
      obtain rfl : b = g := by simpa [Value.ownBlock] using e
      rw [hgg] at hb
      injection hb with hb
      injection hb with _ hb
      exact ht hb.symm
  have other : ∀ (b : Nat) (o : Obj), W.heap[b]? = some o → o.isCells = false → some b ≠ vt.ownBlock := by
    intro b o hb ho e
    rcases h.row.2 with ⟨h0, _⟩ | ⟨g, cap, cur, h0, _, hgg, _⟩
    · rw [h0] at e; cases e
    · rw [h0] at e
      obtain rfl : b = g := by simpa [Value.ownBlock] using e
      rw [hgg] at hb
      cases hb
      cases ho
  refine ⟨⟨by simp [World.setCell]; omega, fun j o hj ho hc => all j o ho (other j o ho hc) (by omega)⟩, ?_, h.turn (hbox2.set _) ?_ (fun b cs t fz ht hc => all b _ hc (cells_ne b cs t fz (by rcases ht with h | h <;> (rw [h]; decide)) hc) (fun e => ?_)) (fun r hr hc => all r _ hc (other r _ hc rfl) (fun e => ?_)) (hbel.mono hwB), ?_, hbel⟩
  · intro k hk o ho hc
    simp only [List.mem_cons, List.not_mem_nil, or_false] at hk
    rcases hk with rfl | rfl
    · exact all k o ho (fun e => hgp k e.symm rfl) hgp4
    · obtain ⟨vb, hvb⟩ := hBs
      refine all k o ho ?_ hbs4
      exact cells_ne k _ _ _ (by decide) hvb
  · refine hown.kept (grownBy_setCell' W2 b4 v') (.inr fun e => ?_)
    have := row_not hown (T := 85) (by decide) b4 e
    exact this _ hbox2
  · subst e
    rw [show W.heap[b]? = _ from h.box] at hc
    injection hc with hc
    injection hc with _ h2
    rcases ht with h | h <;> (rw [h] at h2; exact absurd h2 (by decide))
  · subst e
    rw [show W.heap[r]? = _ from h.box] at hc
    cases hc
  · intro r hr e
    rcases hat with h | h
    · exact hgp r (h ▸ hr) e
    · rw [h] at hr
      injection hr with hr
      simp at hr
      omega
/-- What stands between two rounds. -/
def PrW (w : World) (Bb : Nat) (TX : List UInt8) (t4 : Value) (rs : List Nat) (W : World) (s : Nat) : Prop :=
  ∃ (b4 : Nat) (v : Value) (L : List Pc) (acc : List UInt8), t4 = .pointer (some ⟨b4, 0, none⟩) ∧ pws L = s ∧ s ≤ 700000 ∧ PrI w Bb b4 v L acc rs W ∧ acc ++ L.reverse.flatMap ptx = TX ∧ (∀ p ∈ L, PcOk w.heap.size w p) ∧ Bb < b4 ∧ w.heap.size ≤ Bb ∧ rs.Nodup ∧ (∀ r ∈ rs, Bb < r)
end Go.Proofs.YtifdbmdfkhnojaaDoor
