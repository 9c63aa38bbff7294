/- Texts of one proof, one behind the other. -/
import Derived.Test.YtfoangiphbmipaaMgTermOrder14
import Derived.Test.YtfoangiphbmipaaMgTermOrder27
/- A term's copy: one forest for whatever world keeps its blocks. -/
namespace Go.Proofs.Ytfoangiphbmipaa
open Go.RowKit

theorem ty_more {B B' : Nat} {w w' : World} (hB : B ≤ B') (hk : ∀ b off v, w.cell? ⟨b, off, none⟩ = some v → w'.cell? ⟨b, off, none⟩ = some v) (f : Fo) :
    (∀ v, TyV B w f v → TyV B' w' f v) ∧ (∀ b off, TyC B w f b off → TyC B' w' f b off) := by
  induction f with
  | nil => exact ⟨fun v h => tyV_nil.2 (tyV_nil.1 h), fun _ _ _ => tyC_nil⟩
  | cons k n u ps r ih1 ih2 =>
    have hc : ∀ b off, TyC B w (.cons k n u ps r) b off → TyC B' w' (.cons k n u ps r) b off := by
      intro b off h
      obtain ⟨h1, h2, h3, h4, h5⟩ := tyC_cons.1 h
      exact tyC_cons.2 ⟨hk _ _ _ h1, hk _ _ _ h2, hk _ _ _ h3, ih1.1 (slv u) h4, ih2.2 _ _ h5⟩
    refine ⟨fun v h => ?_, hc⟩
    obtain ⟨b, off, cap, hv, h1, h2, h3, h4⟩ := tyV_cons.1 h
    exact tyV_cons.2 ⟨b, off, cap, hv, h1, h2, by omega, hc b off h4⟩
theorem te_more {B B' : Nat} {w w' : World} (hB : B ≤ B') (hk : ∀ b off v, w.cell? ⟨b, off, none⟩ = some v → w'.cell? ⟨b, off, none⟩ = some v) (f : Te) :
    (∀ v, TeV B w f v → TeV B' w' f v) ∧ (∀ b off, TeC B w f b off → TeC B' w' f b off) := by
  induction f with
  | nil => exact ⟨fun v h => teV_nil.2 (teV_nil.1 h), fun _ _ _ => teC_nil⟩
  | cons x ps r ih1 ih2 =>
    have hc : ∀ b off, TeC B w (.cons x ps r) b off → TeC B' w' (.cons x ps r) b off := by
      intro b off h
      obtain ⟨⟨a0, a1, a2, a3, a4, a5, a6, a7, a8⟩, h2, h3, h4⟩ := teC_cons.1 h
      exact teC_cons.2 ⟨⟨hk _ _ _ a0, hk _ _ _ a1, hk _ _ _ a2, hk _ _ _ a3, hk _ _ _ a4, hk _ _ _ a5, hk _ _ _ a6, hk _ _ _ a7, hk _ _ _ a8⟩, (ty_more hB hk x.ty).1 (slv x.tu) h2, ih1.1 (slv x.u) h3, ih2.2 _ _ h4⟩
    refine ⟨fun v h => ?_, hc⟩
    obtain ⟨b, off, cap, hv, h1, h2, h3, h4⟩ := teV_cons.1 h
    exact teV_cons.2 ⟨b, off, cap, hv, h1, h2, by omega, hc b off h4⟩
theorem cell_obj {w : World} {b off : Nat} {v : Value} (h : w.cell? ⟨b, off, none⟩ = some v) : ∃ o : Obj, w.heap[b]? = some o ∧ o.isCells = true := by
  unfold World.cell? at h
  split at h
  · rename_i c e f hc
    exact ⟨_, hc, rfl⟩
  · cases h
/-- The world that has but the blocks from B to M. -/
def only (B M : Nat) (w : World) : World := { w with heap := Array.ofFn (n := M) fun k => if B ≤ k.val then w.heap.getD k.val (.deferred none) else .deferred none }
theorem only_size (B M : Nat) (w : World) : (only B M w).heap.size = M := by simp [only]
theorem only_at {B M : Nat} {w : World} {b : Nat} {o : Obj} (h : (only B M w).heap[b]? = some o) (ho : o.isCells = true) : B ≤ b ∧ b < M ∧ w.heap[b]? = some o := by
  simp only [only, Array.getElem?_ofFn] at h
  split at h
  · rename_i hb
    injection h with h
    split at h
    · rename_i hB
      refine ⟨hB, hb, ?_⟩
      simp only [Array.getD] at h
      split at h
      · rename_i hlt
        rw [Array.getElem?_eq_getElem hlt]
        exact congrArg some h
      · subst h; cases ho
    · subst h; cases ho
  · cases h
theorem only_in {B M : Nat} {w : World} {b : Nat} {o : Obj} (hB : B ≤ b) (hM : b < M) (h : w.heap[b]? = some o) : (only B M w).heap[b]? = some o := by
  simp only [only, Array.getElem?_ofFn, hM, dite_true, hB, if_true]
  have hlt := (Array.getElem?_eq_some_iff.1 h).1
  rw [Array.getElem?_eq_getElem hlt] at h
  simp only [Array.getD, hlt, dite_true]
  exact h
/-- One forest for all of them. -/
theorem FreshM.fix {B M : Nat} {w : World} {x : Nd} {ps : Te} {tu u : Sl} (h : FreshM B M w x ps tu u) : ∃ ty g, Img idn x.ty ty ∧ TImg ps g ∧
    ∀ W : World, (∀ k, B ≤ k → k < M → W.heap[k]? = w.heap[k]?) → TmL M W ({ x with tu := tu, u := u, ty := ty }, g) := by
  obtain ⟨ty, g, h1, h2, h3, h4⟩ := h.2 (only B M w) (by rw [only_size]; exact Nat.le_refl _) fun b o hB hM ho _ => only_in hB hM ho
  rw [only_size] at h3 h4
  refine ⟨ty, g, h1, h2, fun W hW => ?_⟩
  have hk : ∀ b off v, (only B M w).cell? ⟨b, off, none⟩ = some v → W.cell? ⟨b, off, none⟩ = some v := by
    intro b off v hc
    obtain ⟨o, ho, hoc⟩ := cell_obj hc
    obtain ⟨hB, hM, hw⟩ := only_at ho hoc
    rw [← hc]
    refine World.cell?_of_block ?_
    show W.heap[b]? = (only B M w).heap[b]?
    rw [ho, hW b hB hM, hw]
  exact ⟨(ty_more (Nat.le_refl _) hk ty).1 _ h3, (te_more (Nat.le_refl _) hk g).1 _ h4⟩
/-- The iterator's contract. -/
theorem order_seqX (n_ : Nat) (hn : 2 ≤ n_) (Bs B : Nat) (K : Nat → Prop) (hKB : ∀ k, K k → k < B) (x : Nd) (ps : Te) (hf : ps.size < 1000000) (w : World) (hB : B ≤ w.heap.size) (hBs : w.heap[Bs]? = some (.cells (ndC x).toArray 29)) (hST : ∀ W', Kk K w W' → TmL B W' (x, ps)) :
    SeqX n_ Try.prog 26 #[.pointer (some ⟨Bs, 0, none⟩)] K (fun t : Tm => #[teVal t.1]) (fun ys => ys = (one_ x ps).pre) (fun pre => pre ≠ [] ∧ ∃ s, pre ++ s = (one_ x ps).pre) (fun _ _ _ pre t => ∃ s, pre ++ t :: s = (one_ x ps).pre) w := by
  intro l J Jx W hW _ hJ hJx hY h0
  exact orderX n_ hn l Bs B x ps hf J Jx W (Nat.le_trans hB hW.size) K hKB hJ hJx hY ((hW.block Bs (Array.getElem?_eq_some_iff.1 hBs).1).trans hBs) (fun W' hk => hST W' ((Kk.of_below hW fun k hk => by have := hKB k hk; omega).trans hk)) h0
set_option maxHeartbeats 2000000 in
set_option maxRecDepth 100000 in
/-- term.All: a copy is kept; the function that comes has its box. -/
theorem eall_make (w : World) (x : Nd) (ps : Te) (hx : TmL w.heap.size w (x, ps)) (hs : ps.size < 1000000) (hty : x.ty.size < 1000000) (htb : ps.tyb) :
    Calls Try.prog 7 #[teVal x] w fun e w' => ∃ (Bs : Nat) (tu u : Sl), e = .returned (.func (.func 19) #[] #[.pointer (some ⟨Bs, 0, none⟩)]) ∧ Below w.heap.size w w' ∧ w.heap.size ≤ Bs ∧
      w'.heap[Bs]? = some (.cells (ndC { x with tu := tu, u := u }).toArray 29) ∧ FreshM w.heap.size Bs w' x ps tu u := by
  obtain ⟨w1, hw1⟩ : ∃ w1, w.alloc (.cells (ndC x).toArray 29) = w1 := ⟨_, rfl⟩
  have hb1 : Below w.heap.size w w1 := by rw [← hw1]; exact (Below.refl _ _).alloc (Nat.le_refl _) _
  have hc := ecopy_any w1 x ps (hx.up hb1 hb1.size) hs hty htb
  rw [← hw1] at hc
  have HW := Lib.hid (And.intro hw1 hb1)
  have FRE := Lib.hid (show ∀ (tu u : Sl) (w' : World), FreshE w1.heap.size w' x ps tu u → FreshM w.heap.size w'.heap.size w' x ps tu u from fun tu u w' hf => by
    have h1 := hf.at
    exact ⟨h1.1, fun W hW hk => h1.2 W hW fun b o h2 h3 h4 h5 => hk b o (Nat.le_trans hb1.size h2) h3 h4 h5⟩)
  obtain ⟨x0, x1, x2, x3, x4, ⟨xu1, xu2, xu3⟩, x6, ⟨xv1, xv2, xv3⟩, x8, x9⟩ := x
  dsimp only [teVal, slv, ndC] at hc HW ⊢
  have HC := Lib.hid hc
  clear hc hx hs hty htb hw1 hb1
  go_enter Try.func7, Try.ntmps7
  go_wp2_with fail
  refine HC.out.mono ?_
  rintro e w2 ⟨⟨tu1, tu2, tu3⟩, ⟨u1, u2, u3⟩, rfl, hb2, hf⟩
  rw [HW.out.1] at hb2 hf
  have hbw := HW.out.2.trans (hb2.mono HW.out.2.size)
  have hfm := FRE.out _ _ _ hf
  have HF := Lib.hid (And.intro hbw hfm)
  clear hb2 hf hbw hfm
  dsimp only [teVal, slv]
  go_wp2_with fail
  go_ret
  obtain ⟨hbw, hfm⟩ := HF.out
  have hal : Below w2.heap.size w2 (w2.alloc (.cells #[.int .i64 x0, .string x1, .int .i64 x2, .int .i64 x3, .int .i64 x4, .slice tu1 tu2 tu3, .slice u1 u2 u3, .int .i64 x8, .int .i64 x9] 29)) := (Below.refl _ _).alloc (Nat.le_refl _) _
  exact ⟨w2.heap.size, (tu1, tu2, tu3), (u1, u2, u3), rfl, hbw.trans (hal.mono hbw.size), hbw.size, heap_alloc_new w2 _, hfm.below hal⟩
end Go.Proofs.Ytfoangiphbmipaa
/- term.All's iterator. -/
namespace Go.Proofs.Ytfoangiphbmipaa
open Go.RowKit Go.Shelf
attribute [local go_sem] Oper.semAt_some

/-- What comes of a term: its place, itself, where its copy's type and parts lie. -/
abbrev Gv := Int × Tm × Sl × Sl
def gvE (x : Gv) : Array Value := #[.int .i64 x.1, teVal { x.2.1.1 with tu := x.2.2.1, u := x.2.2.2 }]
/-- What is known of it: the copy hangs on blocks that were laid behind a world in which the visitor's own stood. -/
def gvG (L : List Tm) (base : Nat) (Jh : World → Prop) (O : Nat → Prop) (W : World) (pre : List Gv) (x : Gv) : Prop :=
  x.1 = pre.length ∧ (∃ s, pre.map (·.2.1) ++ x.2.1 :: s = L) ∧ ∃ W2, Jh W2 ∧ Below W2.heap.size W2 W ∧ base ≤ W2.heap.size ∧ FreshM W2.heap.size W.heap.size W x.2.1.1 x.2.1.2 x.2.2.1 x.2.2.2 ∧ ∀ b, W2.heap.size ≤ b → b < W.heap.size → ¬ O b
theorem roundIn_in {n m l l2 : Nat} {P : Program} {f : FuncId} {tmps : Array Value} {assign body : Code} {w : World} {R : Ending → World → Prop} (h : RoundIn Fence.wide n P l f tmps assign body w R) : RoundIn (Fence.wide.inRound l2) m P l f tmps assign body w R := roundIn_wide (m := m) h
theorem Stp.wide {O O' : Nat → Prop} {W W' : World} (h : Stp O W W') (k : ∀ i, O i → O' i) : Stp O' W W' := ⟨h.os, h.tape, h.output, h.size, fun i hi hn => h.block i hi fun ho => hn (k i ho)⟩
set_option maxRecDepth 100000 in
set_option maxHeartbeats 8000000 in
theorem all1X (n_ : Nat) (hn : 3 ≤ n_) (Bs B : Nat) (K : Nat → Prop) (hKB : ∀ k, K k → k < B) (x : Nd) (ps : Te) (hf : ps.size < 1000000) (hty : (one_ x ps).tyb) (w : World) (hB : B ≤ w.heap.size) (hBs : w.heap[Bs]? = some (.cells (ndC x).toArray 29)) (hST : ∀ W', Kk K w W' → TmL B W' (x, ps)) :
    SeqX n_ Try.prog 19 #[.pointer (some ⟨Bs, 0, none⟩)] K gvE (fun ys => ys.map (·.2.1) = (one_ x ps).pre) (fun pre => pre ≠ [] ∧ ∃ s, pre.map (·.2.1) ++ s = (one_ x ps).pre) (gvG (one_ x ps).pre (w.heap.size + 2)) w := by
  intro l J Jx W hW hW2 hJ hJx hY h0
  have hs0 := hW.size
  have hBs' : W.heap[Bs]? = some (.cells (ndC x).toArray 29) := (hW.block Bs (Array.getElem?_eq_some_iff.1 hBs).1).trans hBs
  have hST' : ∀ W', Kk K W W' → TmL B W' (x, ps) := fun W' hk => hST W' ((Kk.of_below hW fun k hk => by have := hKB k hk; omega).trans hk)
  have hBW : B ≤ W.heap.size := by omega
  have hn1 : 1 ≤ n_ := by omega
  -- the boxes
  obtain ⟨w1, hw1⟩ : ∃ w1, W.alloc (Obj.cells #[.func (.yield l) #[] #[]] 47) = w1 := ⟨_, rfl⟩
  have hs1 : w1.heap.size = W.heap.size + 1 := by rw [← hw1]; simp
  have hb1 : Below W.heap.size W w1 := by rw [← hw1]; exact (Below.refl _ _).alloc (Nat.le_refl _) _
  have hk1 : w1.heap[W.heap.size]? = some (Obj.cells #[.func (.yield l) #[] #[]] 47) := by rw [← hw1]; exact heap_alloc_new _ _
  obtain ⟨w2, hw2⟩ : ∃ w2, w1.alloc (Obj.cells #[.int .i64 0] 3) = w2 := ⟨_, rfl⟩
  have hs2 : w2.heap.size = W.heap.size + 1 + 1 := by rw [← hw2]; simp; omega
  have hb2 : Below W.heap.size W w2 := by rw [← hw2]; exact hb1.alloc (by omega) _
  have hk2 : w2.heap[W.heap.size]? = some (Obj.cells #[.func (.yield l) #[] #[]] 47) := by rw [← hw2]; exact (Below.heap_alloc _ _ _ (by omega)).trans hk1
  have hk2' : w2.heap[W.heap.size + 1]? = some (Obj.cells #[.int .i64 0] 3) := by rw [← hw2, ← hs1]; exact heap_alloc_new _ _
  obtain ⟨w3, hw3⟩ : ∃ w3, w2.alloc (Obj.cells (ndC x).toArray 29) = w3 := ⟨_, rfl⟩
  have hs3 : w3.heap.size = W.heap.size + 1 + 1 + 1 := by rw [← hw3]; simp; omega
  have hb3 : Below W.heap.size W w3 := by rw [← hw3]; exact hb2.alloc (by omega) _
  have hk3 : w3.heap[W.heap.size]? = some (Obj.cells #[.func (.yield l) #[] #[]] 47) := by rw [← hw3]; exact (Below.heap_alloc _ _ _ (by omega)).trans hk2
  have hk3' : w3.heap[W.heap.size + 1]? = some (Obj.cells #[.int .i64 0] 3) := by rw [← hw3]; exact (Below.heap_alloc _ _ _ (by omega)).trans hk2'
  have hk3x : w3.heap[W.heap.size + 1 + 1]? = some (Obj.cells (ndC x).toArray 29) := by rw [← hw3, ← hs2]; exact heap_alloc_new _ _
  obtain ⟨OU, hOU⟩ : ∃ OU : (Nat → Prop) → Nat → Prop, OU = fun O k => O k ∨ (W.heap.size ≤ k ∧ k < W.heap.size + 5) := ⟨_, rfl⟩
  have HSEQ := Lib.hid (order_seqX (n_ - 1) (by omega) (W.heap.size + 1 + 1) B K hKB x ps hf w3 (by omega) hk3x (fun W' hk => hST' W' ((Kk.of_below hb3 fun k hk => by have := hKB k hk; omega).trans hk)))
  have hCP : ∀ (W2 : World) (t : Tm), Kk K W W2 → t ∈ (one_ x ps).pre → Calls Try.prog 18 #[teVal t.1] W2 fun e w' => ∃ tu u : Sl, e = .returned (teVal { t.1 with tu := tu, u := u }) ∧ Below W2.heap.size W2 w' ∧ FreshE W2.heap.size w' t.1 t.2 tu u := fun W2 t hk ht => by
    have hT : TmL B W2 t := TeL.pre (f := one_ x ps) ⟨hST' W2 hk, trivial⟩ t ht
    have hp := Te.tyb_pre hty t ht
    have hz := Te.size_pre (one_ x ps) t ht
    exact ecopy_any W2 t.1 t.2 (hT.up (Below.refl _ _) (Nat.le_trans hBW hk.size)) (by simp only [Te.size] at hz; omega) hp.1 hp.2
  have HCP := Lib.hid hCP
  have HJ := Lib.hid hJ
  have HJX := Lib.hid hJx
  have HY := Lib.hid hY
  have HOU := Lib.hid hOU
  have HKW := Lib.hid (show ∀ k, K k → k < W.heap.size from fun k hk => by have := hKB k hk; omega)
  -- what stands between two rounds
  obtain ⟨I0, hI0⟩ : ∃ I0 : (Nat → Prop) → List Tm → World → Prop, I0 = fun O pre W2 => (∃ ys : List Gv, ys.map (·.2.1) = pre ∧ J (OU O) ys W2) ∧ ((W2.heap[W.heap.size]? = some (Obj.cells #[.func (.yield l) #[] #[]] 47) ∧ ¬ O W.heap.size) ∧ ((Boxed W2 (W.heap.size + 1) 3 (.int .i64 pre.length) ∧ ¬ O (W.heap.size + 1)) ∧ (Kk K W W2 ∧ ∀ k, O k → W.heap.size ≤ k))) := ⟨_, rfl⟩
  obtain ⟨IX, hIX⟩ : ∃ IX : Code → (Nat → Prop) → List Tm → World → Prop, IX = fun c O pre W2 => c = .ret ∧ ∃ ys : List Gv, ys.map (·.2.1) = pre ∧ Jx (OU O) ys W2 := ⟨_, rfl⟩
  have kkS : ∀ {O : Nat → Prop} {A C : World}, Kk K W A → (∀ k, O k → W.heap.size ≤ k) → Stp O A C → Kk K W C := fun hk hO hst => hk.trans ⟨hst.os, hst.tape, hst.output, hst.size, fun k hK => hst.block k (by have := HKW.out k hK; have := hk.size; omega) fun h => by have := HKW.out k hK; have := hO k h; omega⟩
  have aI : AbS I0 := by
    rw [hI0]
    intro O O' s A C ⟨⟨ys, h1, h2⟩, ⟨h3, h4⟩, ⟨h5, h6⟩, h7, h8⟩ hst hO
    have hz := (Array.getElem?_eq_some_iff.1 h3).1
    refine ⟨⟨ys, h1, HJ.out _ _ _ _ _ h2 (hst.wide fun i hi => by rw [HOU.out]; exact .inl hi) fun k hk => ?_⟩, ⟨(hst.block _ hz h4).trans h3, fun h => h4 (hO _ hz h)⟩, AbS.box (β := Unit) (f := fun _ => .int .i64 s.length) O O' () A C ⟨h5, h6⟩ hst hO, kkS h7 h8 hst, fun k hk => ?_⟩
    · rw [HOU.out]
      rintro (h | h)
      · exact .inl (hO k hk h)
      · exact .inr h
    · by_cases h : k < A.heap.size
      · exact h8 k (hO k h hk)
      · have := h7.size; omega
  have aX : ∀ c, AbS (IX c) := by
    rw [hIX]
    intro c O O' s A C ⟨hc, ys, h1, h2⟩ hst hO
    refine ⟨hc, ys, h1, HJX.out _ _ _ _ _ h2 (hst.wide fun i hi => by rw [HOU.out]; exact .inl hi) fun k hk => ?_⟩
    rw [HOU.out]
    rintro (h | h)
    · exact .inl (hO k hk h)
    · exact .inr h
  have rI : ∀ O s A C, I0 O s A → Stp (fun k => k = w3.heap.size ∨ k = w3.heap.size + 1) A C → I0 O s C := by
    rw [hI0]
    rintro O s A C ⟨⟨ys, h1, h2⟩, ⟨h3, h4⟩, ⟨h5, h6⟩, h7, h8⟩ hst
    have hz := (Array.getElem?_eq_some_iff.1 h3).1
    exact ⟨⟨ys, h1, HJ.out _ _ _ _ _ h2 (hst.wide fun i hi => by rw [HOU.out]; right; omega) fun _ _ h => h⟩, ⟨(hst.block _ hz (by omega)).trans h3, h4⟩, ⟨(hst.block _ h5.lt (by omega)).trans h5, h6⟩, kkS h7 (fun k hk => by omega) hst, h8⟩
  have rX : ∀ c O s A C, IX c O s A → Stp (fun k => k = w3.heap.size ∨ k = w3.heap.size + 1) A C → IX c O s C := by
    rw [hIX]
    rintro c O s A C ⟨hc, ys, h1, h2⟩ hst
    exact ⟨hc, ys, h1, HJX.out _ _ _ _ _ h2 (hst.wide fun i hi => by rw [HOU.out]; right; omega) fun _ _ h => h⟩
  have start : I0 (fun _ => False) [] w3 := by
    rw [hI0]
    refine ⟨⟨[], rfl, HJ.out _ _ _ _ _ h0 (Stp.of_below hb3) fun k hk h => ?_⟩, ⟨hk3, id⟩, ⟨hk3', id⟩, Kk.of_below hb3 HKW.out, fun _ h => h.elim⟩
    rw [HOU.out] at h
    rcases h with h | h
    · exact h
    · omega
  have HI := Lib.hid (And.intro aI (And.intro aX (And.intro rI (And.intro rX start))))
  have HI0 := Lib.hid hI0
  have HIX := Lib.hid hIX
  have HSZ := Lib.hid (And.intro hs3 (And.intro hs0 hb3))
  obtain ⟨x0, x1, x2, x3, x4, ⟨xu1, xu2, xu3⟩, x6, ⟨xv1, xv2, xv3⟩, x8, x9⟩ := x
  obtain ⟨X, hX⟩ : ∃ X : Nd, (⟨x0, x1, x2, x3, x4, (xu1, xu2, xu3), x6, (xv1, xv2, xv3), x8, x9⟩ : Nd) = X := ⟨_, rfl⟩
  have hm := order_make ⟨x0, x1, x2, x3, x4, (xu1, xu2, xu3), x6, (xv1, xv2, xv3), x8, x9⟩ w2
  rw [← hw2, ← hw1] at hm
  have HM := Lib.hid hm
  have HW := Lib.hid (And.intro hw1 (And.intro hw2 hw3))
  have nB : NdAt W Bs 0 ⟨x0, x1, x2, x3, x4, (xu1, xu2, xu3), x6, (xv1, xv2, xv3), x8, x9⟩ := NdAt.of_block (T := 29) hBs'
  have hBl := (Array.getElem?_eq_some_iff.1 hBs').1
  have nB2 : NdAt w2 Bs 0 ⟨x0, x1, x2, x3, x4, (xu1, xu2, xu3), x6, (xv1, xv2, xv3), x8, x9⟩ := NdAt.below (B := W.heap.size) nB hb2 hBl
  rw [← hw2, ← hw1] at nB2
  obtain ⟨c0, c1, c2, c3, c4, c5, c6, c7, c8⟩ := nB2
  dsimp only [ndC, teVal, slv] at HW HM
  simp only [Nat.zero_add, slv] at c0 c1 c2 c3 c4 c5 c6 c7 c8
  rw [hX] at HSEQ HCP HY ⊢
  have HX := Lib.hid hX
  clear hm hX hY hST hST' hCP hJ hJx h0 aI aX rI rX start hI0 hIX hOU hw1 hs1 hb1 hk1 hw2 hs2 hb2 hk2 hk2' hw3 hs3 hb3 hk3 hk3' hk3x hBs hBs' kkS nB hW hs0 hty
  refine callsIn_of_wp_marks Try.func19 rfl trivial ?_ rfl
  simp only [Try.ntmps19, List.size_toArray, List.length_cons, List.length_nil, Nat.reduceAdd, Nat.reduceSub, Array.replicate_succ, Array.replicate_zero, List.push_toArray, List.append_toArray, List.nil_append, List.cons_append]
  gi_wp2_with (refine ⟨trivial, ?_⟩; gi_at_call 20; refine (callsIn_wide.2 HM.out).mono ?_; rintro e w' ⟨rfl, rfl⟩)
  rw [HW.out.1, HW.out.2.1, HW.out.2.2]
  obtain ⟨hs3, hs0, hb3⟩ := HSZ.out
  refine wpIn_rangeX hn1 (gf := 26) (lb := #[.pointer (some ⟨W.heap.size + 1 + 1, 0, none⟩)]) rfl (enters_of Try.func26 (by kernel_rfl) rfl) HSEQ.out (Below.refl _ _) (fun k hk => by have := HKW.out k hk; omega) (fun _ => rfl)
    I0 IX HI.out.2.2.1 HI.out.2.2.2.1 HI.out.1 HI.out.2.1 HI.out.2.2.2.2
    (fun O pre t a' W2 => ∃ Bx, W2.heap[Bx]? = some (Obj.cells (ndC t.1).toArray 29) ∧ (∃ s, pre ++ t :: s = (one_ X ps).pre) ∧ a' = { tmps := #[.func (.yield l) #[] #[], .pointer (some ⟨Bs, 0, none⟩), .pointer (some ⟨W.heap.size, 0, none⟩), .pointer (some ⟨W.heap.size + 1, 0, none⟩), .pointer (some ⟨Bx, 0, none⟩), (.agg #[.int .i64 x0, .string x1, .int .i64 x2, .int .i64 x3, .int .i64 x4, .slice xu1 xu2 xu3, .slice xv1 xv2 xv3, .int .i64 x8, .int .i64 x9]), .func (.func 26) #[] #[.pointer (some ⟨W.heap.size + 1 + 1, 0, none⟩)], teVal t.1, undef, undef, undef, undef, undef, undef, undef, undef], defers := [] })
    (fun O pre t a' s W W' row hs hg hr => by
      obtain ⟨Bx, hc, hp, ha⟩ := hs
      refine ⟨Bx, (hg.block Bx (Array.getElem?_eq_some_iff.1 hc).1 fun e => ?_).trans hc, hp, ha⟩
      obtain ⟨o, ho, hoc⟩ := (hr Bx e.symm).2
      rw [hc] at ho
      cases ho
      cases hoc) ?assign ?body ?done ?stop
  case assign =>
    rintro l2 O pre t W2 Kc hi ⟨_, _, hG⟩ hsz hO hK
    obtain ⟨⟨z0, z1, z2, z3, z4, ⟨zu1, zu2, zu3⟩, z6, ⟨zv1, zv2, zv3⟩, z8, z9⟩, zp⟩ := t
    dsimp only [teVal, slv] at hK ⊢
    have HI2 := Lib.hid hi
    clear hi
    gi_wp2
    have hal : Below W2.heap.size W2 (W2.alloc (Obj.cells #[.int .i64 z0, .string z1, .int .i64 z2, .int .i64 z3, .int .i64 z4, .slice zu1 zu2 zu3, .slice zv1 zv2 zv3, .int .i64 z8, .int .i64 z9] 29)) := (Below.refl _ _).alloc (Nat.le_refl _) _
    exact hK _ _ (Rec.of_below hal (by omega)) (Kx.of_below hal (fun k hk => by have := HKW.out k hk; omega) fun k hk => (hO k hk).2) (HI.out.1 _ _ _ _ _ HI2.out (Stp.of_below hal) fun _ _ h => h) ⟨W2.heap.size, heap_alloc_new W2 _, hG, rfl⟩
  case body =>
    rintro l2 O pre t a' W2 hl hi hsz hO ⟨Bx, hc, ⟨s, hgs⟩, rfl⟩
    have hi0 := hi
    rw [HI0.out] at hi0
    obtain ⟨⟨ys, hys, hJs⟩, ⟨hy1, hy2⟩, ⟨hb1, hb2⟩, hkk, hOw⟩ := hi0
    have htm : t ∈ (one_ X ps).pre := by rw [← hgs]; simp
    have hcall := HCP.out W2.drew t (hkk.trans (Kk.of_below (Below.refl _ W2).drew fun k hk => by have := HKW.out k hk; have := hkk.size; omega)) htm
    have hpl : pre.length ≤ 1000001 := by
      have := congrArg List.length hgs
      rw [Te.pre_len, List.length_append] at this
      simp only [Te.size] at this
      omega
    have hyl : ys.length = pre.length := by rw [← hys]; simp
    obtain ⟨n, hn⟩ : ∃ n, pre.length = n := ⟨_, rfl⟩
    have HSUB := Lib.hid (show ∀ k, OU O k → W.heap.size ≤ k ∧ k < W2.heap.size from fun k hk => by
      rw [HOU.out] at hk
      rcases hk with h | h
      · have := hO k h; have := hOw k h; omega
      · omega)
    have HYY := Lib.hid (show ∀ (W5 : World) (tu u : Sl), Below W2.heap.size W2 W5 → FreshE W2.heap.size W5 t.1 t.2 tu u → YieldAt Fence.wide (n_ - 1) Try.prog l #[.int .i64 n, teVal { t.1 with tu := tu, u := u }] W5 fun e W' =>
        ∃ b : Bool, e = .returned (.bool b) ∧ (b = true → ∃ ys2 : List Gv, ys2.map (·.2.1) = pre ++ [t] ∧ J (OU O) ys2 W') ∧ (b = false → ∃ ys2 : List Gv, ys2.map (·.2.1) = pre ++ [t] ∧ Jx (OU O) ys2 W') ∧ Kx (OU O) K W5 W' from fun W5 tu u hb5 hf5 => by
      have h1 := HY.out (OU O) ys ((n : Int), t, tu, u) W5 (HJ.out _ _ _ _ _ hJs (Stp.of_below hb5) fun _ _ h => h) (fun k hk => by have := HSUB.out k hk; have := hb5.size; omega) (by have := hb5.size; omega) (hkk.trans (Kk.of_below hb5 fun k hk => by have := HKW.out k hk; omega))
        ⟨by rw [hyl, hn], ⟨s, by rw [hys]; exact hgs⟩, W2, hJs, hb5, by omega, hf5.at, fun b h2 h3 h4 => by have := HSUB.out b h4; omega⟩
      obtain ⟨fn, tm, asg, bd, h2, h3⟩ := h1
      refine ⟨fn, tm, asg, bd, h2, h3.mono ?_⟩
      rintro e W' (⟨he, hj, hk⟩ | ⟨he, hj, hk⟩)
      · exact ⟨true, he, fun _ => ⟨_, by rw [List.map_append, hys]; rfl, hj⟩, (fun h => by cases h), hk⟩
      · exact ⟨false, he, (fun h => by cases h), fun _ => ⟨_, by rw [List.map_append, hys]; rfl, hj⟩, hk⟩)
    rw [hn] at hb1 hpl
    obtain ⟨c0, c1, c2, c3, c4, c5, c6, c7, c8⟩ := NdAt.of_block hc
    have b0 : W2.cell? ⟨W.heap.size, 0, none⟩ = some (.func (.yield l) #[] #[]) := cell_of_row W2 _ 0 _ _ (0, 0) hy1
    have i0 := hb1.cell
    have HBK := Lib.hid (And.intro hy1 (And.intro hy2 (And.intro hb1 (And.intro hb2 (And.intro hkk hOw)))))
    have HO := Lib.hid hO
    have HN := Lib.hid hn
    obtain ⟨⟨z0, z1, z2, z3, z4, ⟨zu1, zu2, zu3⟩, z6, ⟨zv1, zv2, zv3⟩, z8, z9⟩, zp⟩ := t
    dsimp only [teVal, slv, ndC] at c0 c1 c2 c3 c4 c5 c6 c7 c8 hcall hc HYY ⊢
    simp only [Nat.zero_add] at c0 c1 c2 c3 c4 c5 c6 c7 c8
    have FA := Lib.hid hcall
    have hn2 : 1 ≤ n_ - 1 - 1 := by omega
    have FTT := Lib.hid (show ∀ (w5 w6 : World), Below W2.heap.size W2 w5 → Kx (OU O) K w5 w6 → Boxed w6 (W.heap.size + 1) 3 (.int .i64 n) ∧ Rec w3.heap.size W2 w6 ∧ Kx O K W2 w6 ∧ w6.heap[W.heap.size]? = some (Obj.cells #[.func (.yield l) #[] #[]] 47) ∧ Kk K W w6 from fun w5 w6 h5 h6 => by
      have ou : ∀ k, OU O k → w6.heap[k]? = W2.heap[k]? := fun k hk => (h6.own k hk).trans (h5.block k (HSUB.out k hk).2)
      have own : ∀ k, W.heap.size ≤ k → k < W.heap.size + 5 → OU O k := fun k h1 h2 => by rw [HOU.out]; exact .inr ⟨h1, h2⟩
      have kk : Kk K W2 w6 := (Kk.of_below h5 fun k hk => by have := HKW.out k hk; omega).trans h6.kk
      refine ⟨(ou _ (own _ (by omega) (by omega))).trans hb1, fun k hk => ou _ (own _ (by omega) (by omega)), ⟨kk, fun k hk => ou k (by rw [HOU.out]; exact .inl hk)⟩, (ou _ (own _ (by omega) (by omega))).trans hy1, hkk.trans kk⟩)
    have hWl1 : W.heap.size < W2.drew.heap.size := by show W.heap.size < W2.heap.size; omega
    have hWl2 : W.heap.size + 1 < W2.drew.heap.size := by show W.heap.size + 1 < W2.heap.size; omega
    clear hcall hgs htm hi hys hJs hy1 hy2 hb1 hb2 hkk hOw hc hs3 hs0 hb3 hO hn hyl
    have hmix : Try.prog.follows Departure.mixedOrders = true := by kernel_rfl
    gi_wp2
    gi_region_with_o (first
      | (refine ⟨trivial, ?_⟩; gi_at_call 18; refine (CallsIn.inRound l2 (callsIn_wide.2 FA.out)).mono ?_; rintro e w5 ⟨⟨v1, v2, v3⟩, ⟨s1, s2, s3⟩, rfl, hb5, hf5⟩; obtain ⟨fn, tm, asg, bd, hy, hR2⟩ := HYY.out _ _ _ ((Below.refl _ W2).drew.trans hb5) hf5; have e0 := (hb5.cell (p := ⟨W.heap.size, 0, none⟩) hWl1).trans b0; have e1 := (hb5.cell (p := ⟨W.heap.size + 1, 0, none⟩) hWl2).trans i0; have HB5 := Lib.hid hb5; clear hb5 hf5)
      | (refine roundIn_in (hR2.mono ?_); rintro e w6 ⟨b6, rfl, hj6, hx6, hk6⟩; have HK6 := Lib.hid (And.intro hj6 (And.intro hx6 hk6)); clear hj6 hx6 hk6))
    all_goals
      obtain ⟨f1, f2, f3, f4, f5⟩ := FTT.out w5 w6 ((Below.refl _ W2).drew.trans HB5.out) HK6.out.2.2
      have g1 := f1.cell
      have g2 := f1.frozen
      cases b6
      case' false =>
        have HF := Lib.hid (And.intro f2 f3)
        clear f1 f2 f3 f4 f5
        gi_wp2
        refine ⟨HF.out.1, ?_, HF.out.2⟩
        rw [HIX.out]
        exact ⟨rfl, HK6.out.2.1 (by trivial)⟩
      have HF := Lib.hid (And.intro f1 (And.intro f2 (And.intro f3 (And.intro f4 f5))))
      clear f1 f2 f3 f4 f5
      gi_wp2
      obtain ⟨f1, f2, f3, f4, f5⟩ := HF.out
      have hs3 := HSZ.out.1
      have st := grownBy_setCell' w6 (W.heap.size + 1) (.int .i64 ((n : Int) + 1))
      have far : ∀ k, k ≠ W.heap.size + 1 → (w6.setCell ⟨W.heap.size + 1, 0, none⟩ (.int .i64 ((n : Int) + 1))).heap[k]? = w6.heap[k]? := fun k hk => Below.heap_setCell _ _ _ _ (by simpa using hk)
      have kk : Kk K w6 (w6.setCell ⟨W.heap.size + 1, 0, none⟩ (.int .i64 ((n : Int) + 1))) := ⟨st.os, st.tape, st.output, st.size, fun k hk => far k (by have := HKW.out k hk; omega)⟩
      refine ⟨fun k hk => (far k (by omega)).trans (f2 k hk), f3.t ⟨kk, fun k hk => far k (fun e => HBK.out.2.2.2.1 (e ▸ hk))⟩, ?_⟩
      rw [HI0.out]
      obtain ⟨ys2, hm2, hj2⟩ := HK6.out.1 (by trivial)
      refine ⟨⟨ys2, hm2, HJ.out _ _ _ _ _ hj2 (Stp.grown st fun r e => by cases e; left; rw [HOU.out]; right; omega) fun _ _ h => h⟩, ⟨(far _ (by omega)).trans f4, HBK.out.2.1⟩, ⟨?_, HBK.out.2.2.2.1⟩, f5.trans kk, HBK.out.2.2.2.2.2⟩
      rw [List.length_append, List.length_singleton, Int.natCast_add, Int.natCast_one, HN.out]
      exact f1.set _
  case done =>
    rintro D O xs W2 hD rfl hi hDe hK
    rw [HI0.out] at hi
    obtain ⟨⟨ys, hys, hJs⟩, _, _, hkk, _⟩ := hi
    have HF := Lib.hid (And.intro hys hJs)
    clear hys hJs
    gi_wp2
    refine ⟨by simp, .inl ⟨_, _, rfl, run_takeDeferred hK, ?_⟩⟩
    refine ⟨_, results_none rfl _ _ _, ⟨_, rfl⟩, .inl ⟨ys, OU O, HF.out.1, HJ.out _ _ _ _ _ HF.out.2 (Stp.grown (grownBy_putObj' W2 D _) fun r e => by cases e; left; rw [HOU.out]; right; omega) fun _ _ h => h⟩⟩
  case stop =>
    rintro D c O pre W2 hD ⟨hne, s, hsp⟩ hi hDe hK
    rw [HIX.out] at hi
    obtain ⟨rfl, ys, hys, hJs⟩ := hi
    have HF := Lib.hid (And.intro hys hJs)
    clear hys hJs
    gi_wp2
    refine ⟨by simp, .inl ⟨_, _, rfl, run_takeDeferred hK, ?_⟩⟩
    refine ⟨_, results_none rfl _ _ _, ⟨_, rfl⟩, .inr ⟨ys, OU O, ⟨fun e => hne (by rw [← HF.out.1, e]; rfl), s, by rw [HF.out.1]; exact hsp⟩, HJX.out _ _ _ _ _ HF.out.2 (Stp.grown (grownBy_putObj' W2 D _) fun r e => by cases e; left; rw [HOU.out]; right; omega) fun _ _ h => h⟩⟩
end Go.Proofs.Ytfoangiphbmipaa
/- A function compared to nil. -/
namespace Go.Proofs.Ytfoangiphbmipaa
open Go.RowKit
theorem seq_not_nil (w : World) (f : Nat) (lb : Array Value) : (binOp BinOp.eql 34 (.func (.func f) #[] lb) .nilFunc).run Try.prog w = .ok (.bool false) w := by
  obtain ⟨d, hd⟩ : ∃ d, Op.maxDepth = d + 1 := ⟨_, rfl⟩
  have h : (Op.equal 34 (.func (.func f) #[] lb) .nilFunc).run Try.prog w = .ok false w := by
    unfold Op.equal
    rw [hd]
    simp [Op.equalIn, go_sem, Try.underlying34]
  simp [binOp, go_sem, h]
end Go.Proofs.Ytfoangiphbmipaa
