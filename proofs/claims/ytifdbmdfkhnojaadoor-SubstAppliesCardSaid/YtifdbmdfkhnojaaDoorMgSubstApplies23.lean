/- Texts of one proof, one behind the other. -/
import Derived.Test.YtifdbmdfkhnojaaDoorMgSubstApplies22
import Derived.Test.YtifdbmdfkhnojaaDoorMgSubstApplies16
/- The document's Apply. -/
namespace Go.Proofs.YtifdbmdfkhnojaaDoor
open Go.RowKit Go.Shelf
/-- A list of types that stands on certain blocks. -/
def Std (S : Nat → Prop) (w : World) (P : Fo) (u : Sl) : Prop :=
  ∀ W : World, w.heap.size ≤ W.heap.size → (∀ b, b < w.heap.size → S b → W.heap[b]? = w.heap[b]?) → ∃ g, g.pure = P ∧ TyV W.heap.size W g (slv u)
theorem Std.now {S : Nat → Prop} {w : World} {P : Fo} {u : Sl} (h : Std S w P u) : ∃ g, g.pure = P ∧ TyV w.heap.size w g (slv u) := h w (Nat.le_refl _) fun _ _ _ => rfl
theorem Std.to {S S' : Nat → Prop} {w w' : World} {P : Fo} {u : Sl} (h : Std S w P u) (hs : w.heap.size ≤ w'.heap.size) (hS : ∀ b, b < w.heap.size → S b → S' b ∧ w'.heap[b]? = w.heap[b]?) : Std S' w' P u :=
  fun W hW hk => h W (Nat.le_trans hs hW) fun b hb hSb => (hk b (by omega) (hS b hb hSb).1).trans (hS b hb hSb).2
theorem Std.of_tyV {B : Nat} {w : World} {f : Fo} {u : Sl} (h : TyV B w f (slv u)) (hB : B ≤ w.heap.size) : Std (fun b => b < B) w f.pure u :=
  fun W hW hk => ⟨f, rfl, h.keep (by omega) fun b off hb => World.cell?_of_block (hk b (by omega) hb)⟩
theorem FreshP.std {T : TypeId} {B : Nat} {w : World} {P : Fo} {u : Sl} (h : FreshP T B w P u) : Std (fun b => B ≤ b) w P u :=
  fun W hW hk => h W hW fun b cs hb hc => (hk b (Array.getElem?_eq_some_iff.1 hc).1 hb).trans hc
/-- A row's types stand. -/
def Elems (S : Nat → Prop) (w : World) : List Tr → Fo → Prop
  | [], .nil => True
  | x :: L, .cons k n _ ps r => x.1 = k ∧ x.2.1 = n ∧ Std S w ps x.2.2 ∧ Elems S w L r
  | _, _ => False
theorem Elems.to {S S' : Nat → Prop} {w w' : World} {L : List Tr} {P : Fo} (h : Elems S w L P) (hs : w.heap.size ≤ w'.heap.size) (hS : ∀ b, b < w.heap.size → S b → S' b ∧ w'.heap[b]? = w.heap[b]?) : Elems S' w' L P := by
  induction L generalizing P with
  | nil => cases P <;> simp_all [Elems]
  | cons x L ih => cases P with
    | nil => exact h.elim
    | cons k n u ps r => exact ⟨h.1, h.2.1, h.2.2.1.to hs hS, ih h.2.2.2⟩
theorem Elems.snoc {S : Nat → Prop} {w : World} {L : List Tr} {P : Fo} (h : Elems S w L P) {k n : Int} {u u0 : Sl} {ps : Fo} (h1 : Std S w ps u) : Elems S w (L ++ [(k, n, u)]) (P.app (.cons k n u0 ps .nil)) := by
  induction L generalizing P with
  | nil => cases P with
    | nil => exact ⟨rfl, rfl, h1, trivial⟩
    | cons => exact h.elim
  | cons x L ih => cases P with
    | nil => exact h.elim
    | cons k n u ps r => exact ⟨h.1, h.2.1, h.2.2.1, ih h.2.2.2⟩
theorem Elems.len {S : Nat → Prop} {w : World} {L : List Tr} {P : Fo} (h : Elems S w L P) : L.length = P.len := by
  induction L generalizing P with
  | nil => cases P <;> simp_all [Elems, Fo.len]
  | cons x L ih => cases P with
    | nil => exact h.elim
    | cons k n u ps r => simp [Fo.len, ih h.2.2.2]
/-- They are read. -/
theorem Elems.read {S : Nat → Prop} {w : World} {L : List Tr} {P : Fo} (h : Elems S w L P) {W : World} (hs : w.heap.size ≤ W.heap.size) (hk : ∀ b, b < w.heap.size → S b → W.heap[b]? = w.heap[b]?) {b off : Nat}
    (hc : ∀ j u, (L.flatMap trC)[j]? = some u → W.cell? ⟨b, off + j, none⟩ = some u) : ∃ G, G.pure = P.pure ∧ TyC W.heap.size W G b off := by
  induction L generalizing P off with
  | nil => cases P with
    | nil => exact ⟨.nil, rfl, tyC_nil⟩
    | cons => exact h.elim
  | cons x L ih => cases P with
    | nil => exact h.elim
    | cons k n u ps r =>
      obtain ⟨h1, h2, h3, h4⟩ := h
      simp only [List.flatMap_cons, trC, List.cons_append, List.nil_append] at hc
      obtain ⟨g, hg, hv⟩ := h3 W hs hk
      obtain ⟨G, hG, hC⟩ := ih h4 (off := off + 3) fun j v hj => by
        rw [Nat.add_assoc, Nat.add_comm 3 j]
        exact hc (j + 3) v (by simpa using hj)
      refine ⟨.cons x.1 x.2.1 x.2.2 g G, by simp [Fo.pure, ← hg, hG, h1, h2, Fo.pure_pure], tyC_cons.2 ⟨hc 0 _ rfl, hc 1 _ rfl, hc 2 _ rfl, hv, hC⟩⟩
/-- A row of one's own whose types stand is a list of types that stands. -/
theorem Elems.std {S : Nat → Prop} {w : World} {base : Nat} {v : Sl} {L : List Tr} {P : Fo} (own : w.ownsRow base 25 3 (slv v) L.length (L.flatMap trC)) (h : Elems S w L P) : Std (fun b => S b ∨ some b = (slv v).ownBlock) w P.pure v := by
  intro W hW hk
  have hl := h.len
  obtain ⟨_, hr⟩ := Rd.of_own own
  rcases hr with ⟨h0, A, c, he⟩ | ⟨b, off, cap, he, hnc, hcm, hb, hat⟩
  · cases P with
    | nil => exact ⟨.nil, rfl, tyV_nil.2 ⟨A, c, he⟩⟩
    | cons => simp [Fo.len] at hl; omega
  · have hbk : W.heap[b]? = w.heap[b]? := hk b hb (.inr (by rw [he]; rfl))
    obtain ⟨G, hG, hC⟩ := h.read (W := W) hW (fun x hx hS => hk x hx (.inl hS)) (b := b) (off := off) fun j u hj => (World.cell?_of_block hbk).trans (hat j u hj)
    have hGl : G.len = L.length := by rw [← Fo.pure_len, hG, Fo.pure_len, hl]
    refine ⟨G, hG, ?_⟩
    rw [he]
    cases G with
    | nil =>
      simp only [Fo.len] at hGl
      have e : L.length = 0 := hGl.symm
      rw [e]
      exact tyV_nil.2 ⟨some ⟨b, off, none⟩, cap, rfl⟩
    | cons k n u ps r =>
      simp only [Fo.len] at hGl
      exact tyV_cons.2 ⟨b, off, cap, by rw [← hGl], by omega, hcm, by omega, hC⟩
/-- An append of types, told by their cells. -/
theorem app_tr (W : World) (base : Nat) (v : Value) (L : List Tr) (own : W.ownsRow base 25 3 v L.length (L.flatMap trC)) (vx : Value) (L2 : List Tr) (rd : Rd W 3 vx L2.length (L2.flatMap trC)) (hl : L.length + L2.length ≤ 10000000) (hbase : base ≤ W.heap.size) :
    ∃ (v' : Sl) (W' : World), (app_ #[23, 23] 23 #[v, vx]).run Tryd.prog W = .ok (slv v') W' ∧ W'.ownsRow base 25 3 (slv v') (L ++ L2).length ((L ++ L2).flatMap trC) ∧ W.grownBy W' v.ownBlock ∧ ((slv v').ownBlock = v.ownBlock ∨ (slv v').ownBlock = some W.heap.size) := by
  obtain ⟨i0, hi0, hz0, hz1, hz2⟩ := info_parts tyInfo
  obtain ⟨v1, w1, hrun, hown, hg, hat⟩ := run_append_rd (P := Tryd.prog) W base 23 23 25 i0 _ 3 40 Tryd.underlying23 hi0 hz0 hz1 hz2 rfl (by omega) v _ _ own vx _ _ rd (trC_one _) (by unfold maxLen; omega) (by omega) hbase
  obtain ⟨A, c, rfl, _, _⟩ := own_form hown
  refine ⟨(A, _, c), w1, hrun, ?_, hg, hat⟩
  rw [List.length_append, List.flatMap_append]
  exact hown
/-- What has come so far, between two rounds. -/
structure RaInv (B0 : Nat) (s : Sg) (f : Fo) (k n : Int) (wx : World) (j : Nat) (wr : World) : Prop where
  row : ∃ (v : Sl) (L : List Tr), wr.heap[wx.heap.size]? = some (Obj.cells #[.int .i64 k, .int .i64 n, slv v] 25) ∧ wr.ownsRow (wx.heap.size + 1) 25 3 (slv v) L.length (L.flatMap trC) ∧ L.length = j ∧
    Elems (fun b => (b < B0 ∨ wx.heap.size + 1 ≤ b) ∧ some b ≠ (slv v).ownBlock) wr L ((f.take j).sub s)
  below : Below wx.heap.size wx wr
  size : wx.heap.size + 1 ≤ wr.heap.size
/-- A round, put together. -/
theorem RaInv.step {B0 : Nat} {s : Sg} {f : Fo} {k n : Int} {wx wr w3 W2 : World} {j : Nat} {v v' r ue : Sl} {L : List Tr} {ke ne : Int} {pe : Fo} (hat_ : f.at_ j = (ke, ne, ue, pe)) (hj : j < f.len) (hBx : B0 ≤ wx.heap.size) (hL : L.length = j)
    (hbox : wr.heap[wx.heap.size]? = some (Obj.cells #[.int .i64 k, .int .i64 n, slv v] 25)) (hown : wr.ownsRow (wx.heap.size + 1) 25 3 (slv v) L.length (L.flatMap trC))
    (hel : Elems (fun b => (b < B0 ∨ wx.heap.size + 1 ≤ b) ∧ some b ≠ (slv v).ownBlock) wr L ((f.take j).sub s)) (hb : Below wx.heap.size wx wr) (hsz : wx.heap.size + 1 ≤ wr.heap.size)
    (hb3 : Below wr.heap.size wr w3) (hst : Std (fun b => b < B0 ∨ wr.heap.size ≤ b) w3 (Fo.sub1 s ke ne pe).2.2 r)
    (hown2 : W2.ownsRow (wx.heap.size + 1) 25 3 (slv v') (L ++ [((Fo.sub1 s ke ne pe).1, (Fo.sub1 s ke ne pe).2.1, r)]).length ((L ++ [((Fo.sub1 s ke ne pe).1, (Fo.sub1 s ke ne pe).2.1, r)]).flatMap trC))
    (o : Obj) (hg : (w3.alloc o).grownBy W2 (slv v).ownBlock) (hat : (slv v').ownBlock = (slv v).ownBlock ∨ (slv v').ownBlock = some (w3.alloc o).heap.size) :
    RaInv B0 s f k n wx (j + 1) (W2.setCell ⟨wx.heap.size, 2, none⟩ (slv v')) := by
  have hv : ∀ b, (slv v).ownBlock = some b → wx.heap.size + 1 ≤ b ∧ b < wr.heap.size := fun b h => hown.lt b h
  have h3s := hb3.size
  have hgs := hg.size
  rw [World.size_alloc] at hgs hat
  have hne : (slv v).ownBlock ≠ some wx.heap.size := fun e => by have := (hv _ e).1; omega
  have hbk : ∀ b, b < w3.heap.size → some b ≠ (slv v).ownBlock → W2.heap[b]? = w3.heap[b]? := fun b hb1 hb2 => (hg.block b (by rw [World.size_alloc]; omega) hb2).trans (Below.heap_alloc _ _ _ hb1)
  have hset : ∀ b, b ≠ wx.heap.size → (W2.setCell ⟨wx.heap.size, 2, none⟩ (slv v')).heap[b]? = W2.heap[b]? := fun b hb => Below.heap_setCell _ _ _ _ hb
  refine ⟨⟨v', L ++ [((Fo.sub1 s ke ne pe).1, (Fo.sub1 s ke ne pe).2.1, r)], ?_, ?_, by simp [hL], ?_⟩, ?_, by simp [World.setCell]; omega⟩
  · have h0 : W2.heap[wx.heap.size]? = some (Obj.cells #[.int .i64 k, .int .i64 n, slv v] 25) := (hbk _ (by omega) (fun e => hne e.symm)).trans ((hb3.block _ (by omega)).trans hbox)
    rw [heap_setCell_same W2 _ _ _ _ _ h0]
    rfl
  · refine hown2.kept (row := some wx.heap.size) ⟨rfl, rfl, rfl, by simp [World.setCell], fun k _ hk => Below.heap_setCell _ _ _ k (fun e => hk (by rw [e]))⟩ (.inr fun e => ?_)
    have := (hown2.lt _ e).1
    omega
  · rw [Fo.take_step f j hj, hat_, Fo.sub_app, Fo.sub_cons]
    refine Elems.snoc (hel.to (by simp [World.setCell]; omega) fun b hb1 hS => ?_) (hst.to (by simp [World.setCell]; omega) fun b hb1 hS => ?_)
    · have e1 : b ≠ wx.heap.size := by omega
      refine ⟨⟨hS.1, fun e => ?_⟩, (hset b e1).trans ((hbk b (by omega) hS.2).trans (hb3.block b hb1))⟩
      rcases hat with h | h
      · exact hS.2 (e.trans h)
      · rw [h] at e; injection e with e; omega
    · have e1 : b ≠ wx.heap.size := by omega
      have e2 : some b ≠ (slv v).ownBlock := fun e => by have := hv b e.symm; omega
      refine ⟨⟨by omega, fun e => ?_⟩, (hset b e1).trans (hbk b hb1 e2)⟩
      rcases hat with h | h
      · exact e2 (e.trans h)
      · rw [h] at e; injection e with e; omega
  · refine ((hb.trans (hb3.mono hb.size)).trans ?_)
    have h1 : Below wx.heap.size w3 W2 := ((Below.refl _ w3).alloc (by omega) o).grown hg (by rw [World.size_alloc]; omega) (fun b e => by have := (hv b e).1; omega)
    exact h1.setCell (by simp) _
set_option maxHeartbeats 4000000 in
set_option maxRecDepth 100000 in
theorem rapply_any (B0 : Nat) (l : List Bnd) (v : Value) (hll : l.length ≤ 1000000) (m : Nat) : ∀ (f : Fo) (k n : Int) (u : Sl) (w : World), f.size < m → f.size ≤ 1000000 → B0 ≤ w.heap.size → BdV B0 w l v → TyV B0 w f (slv u) →
    Calls Tryd.prog 11 #[v, tyVal k n (slv u)] w fun e w' => ∃ u' : Sl, e = .returned (tyVal (Fo.sub1 (sg l) k n f).1 (Fo.sub1 (sg l) k n f).2.1 (slv u')) ∧ Below w.heap.size w w' ∧ Std (fun b => b < B0 ∨ w.heap.size ≤ b) w' (Fo.sub1 (sg l) k n f).2.2 u' := by
  induction m with
  | zero => intro f _ _ _ _ h; omega
  | succ m ih =>
    intro f k n u w hm hs hB hl hf
    have IH := Lib.hid ih
    clear ih
    obtain ⟨u1, u2, u3⟩ := u
    obtain ⟨A, c, rfl⟩ := hl.form
    obtain rfl : u2 = f.len := by
      obtain ⟨A', c', hu⟩ := hf.slice
      injection hu
    have hfl := f.len_le_size
    obtain ⟨w2, hw2⟩ : ∃ w2, (w.alloc (.cells #[.int .i64 k, .int .i64 n, .slice u1 f.len u3] 25)).alloc (.cells #[.int .i64 0, .int .i64 0, .slice none 0 0] 25) = w2 := ⟨_, rfl⟩
    have hs2 : w2.heap.size = w.heap.size + 1 + 1 := by rw [← hw2]; simp
    have hb2 : Below w.heap.size w w2 := by rw [← hw2]; exact ((Below.refl _ w).alloc (Nat.le_refl _) _).alloc (by simp) _
    have h0 : w2.heap[w.heap.size]? = some (.cells #[.int .i64 k, .int .i64 n, .slice u1 f.len u3] 25) := by
      rw [← hw2]; exact (Below.heap_alloc _ _ _ (by simp)).trans (heap_alloc_new w _)
    have h1 : w2.heap[w.heap.size + 1]? = some (.cells rt0 25) := by
      rw [← hw2]
      have := heap_alloc_new (w.alloc (.cells #[.int .i64 k, .int .i64 n, .slice u1 f.len u3] 25)) (.cells #[.int .i64 0, .int .i64 0, .slice none 0 0] 25)
      rwa [World.size_alloc] at this
    have c0 : w2.cell? ⟨w.heap.size, 0, none⟩ = some (.int .i64 k) := cell_of_row w2 w.heap.size 0 _ _ (0, 0) h0
    have c1 : w2.cell? ⟨w.heap.size, 1, none⟩ = some (.int .i64 n) := cell_of_row w2 w.heap.size 1 _ _ (0, 0) h0
    have c2 : w2.cell? ⟨w.heap.size, 2, none⟩ = some (.slice u1 f.len u3) := cell_of_row w2 w.heap.size 2 _ _ (0, 0) h0
    have hl2 : BdV w2.heap.size w2 l (.slice A l.length c) := (hl.below (hb2.mono hB)).keep (by omega) fun _ _ _ => rfl
    have hfd := rfind_any w2 l _ hl2 hll n
    have hB0 : ∀ b, b < w.heap.size → b < w2.heap.size := fun b h => by omega
    have HL := Lib.hid hl
    have HF := Lib.hid hf
    have HB2 := Lib.hid hb2
    have H0 := Lib.hid h0
    have H1 := Lib.hid h1
    have HFD := Lib.hid hfd
    clear hl hf hb2 h0 h1 hfd hl2 hB0
    dsimp only [tyVal, slv]
    go_enter Tryd.func11, Tryd.ntmps11
    by_cases hk : k = 1
    case' pos =>
      subst hk
      go_wp2_with fail
      refine HFD.out.mono ?_
      rintro e wx ⟨rfl, hbx⟩
      have x0 := (hbx.cell (p := ⟨w.heap.size, 0, none⟩) (by simp; omega)).trans c0
      have x1 := (hbx.cell (p := ⟨w.heap.size, 1, none⟩) (by simp; omega)).trans c1
      have x2 := (hbx.cell (p := ⟨w.heap.size, 2, none⟩) (by simp; omega)).trans c2
      have hxl : w.heap.size < wx.heap.size := by have := hbx.size; omega
      have hxl1 : w.heap.size + 1 < wx.heap.size := by have := hbx.size; omega
      have X1 := Lib.hid ((hbx.block (w.heap.size + 1) (by omega)).trans H1.out)
      have HBX := Lib.hid (HB2.out.trans (hbx.mono (by omega)))
      clear hbx c0 c1 c2
      cases hfn : fnd l n with
      | some b =>
        have hge : ¬ idx l n < 0 := fun h => by rw [idx_none.1 h] at hfn; cases hfn
        obtain ⟨j, hj⟩ := Int.eq_ofNat_of_zero_le (show 0 ≤ idx l n by omega)
        obtain ⟨hjl, hfj, _⟩ := idx_some hj
        rw [hfn] at hfj
        injection hfj with hfj
        obtain ⟨bb, off, rfl, hbB, _, d1, d2, d3⟩ := (HL.out.below (HBX.out.mono hB)).at j hjl
        rw [← hfj] at d1 d2 d3
        have htb : TyV B0 wx b.2.2.2.2 (slv b.2.2.2.1) := by
          obtain ⟨_, _, _, _, h2⟩ := HL.out
          exact (h2 b (fnd_mem hfn)).below (HBX.out.mono hB)
        have hs1 : Fo.sub1 (sg l) 1 n f = (b.2.1, b.2.2.1, b.2.2.2.2.pure) := by
          have : sg l n = some (b.2.1, b.2.2.1, b.2.2.2.2.pure) := by unfold sg; rw [hfn]; rfl
          exact (Fo.sub1_has rfl this).trans (by simp [Fo.pure_pure])
        obtain ⟨bv, bk, bn, ⟨v1, v2, v3⟩, bps⟩ := b
        dsimp only [slv] at d1 d2 d3 htb hs1
        obtain ⟨r0, r1, r2, z0, z1, z2, w4, hw4, hld, hs4, hfar, hb4⟩ := ret_cells (w := wx) (w.heap.size + 1) bk bn (v1, v2, v3) X1.out
        have hfin : Std (fun b => b < B0 ∨ w.heap.size ≤ b) w4 bps.pure (v1, v2, v3) := (Std.of_tyV htb (by omega)).to (by omega) fun b hb hS => ⟨.inl hS, hfar b (by omega)⟩
        have hbel : Below w.heap.size w w4 := HBX.out.trans (hb4.mono (by omega))
        have HL2 := Lib.hid hld
        have HFI := Lib.hid (And.intro hfin (And.intro hbel hs1))
        have fj0 : (0 : Int) ≤ (j : Int) := by omega
        rw [hj]
        clear hfin hbel hfar hld htb hfn hfj hge hj hs1
        dsimp only [slv] at hw4
        go_wp2_with fail
        refine bodyPost_ret (results_box rfl _ _ _ _ rfl HL2.out) rfl ?_
        obtain ⟨h1, h2, h3⟩ := HFI.out
        rw [h3]
        exact ⟨(v1, v2, v3), rfl, h2, h1⟩
      | none =>
        have hlt : ¬ (0 : Int) ≤ idx l n := by have := idx_none.2 hfn; omega
        have hno : (1 : Int) = 1 → sg l n = none := fun _ => by unfold sg; rw [hfn]; rfl
        clear hfn
        have hsub := Fo.sub1_not (ps := f) hno
        have HNO := Lib.hid hsub
        clear hsub hno
        go_wp2_with fail
        go_loopw [7] (fun s7 wr => ∃ j : Nat, s7 = .int .i64 j ∧ j ≤ f.len ∧ RaInv B0 (sg l) f 1 n wx j wr) (fun s _ => f.len - (intOf s).toNat)
        case atStart => exact ⟨0, rfl, Nat.zero_le _, ⟨⟨(none, 0, 0), [], heap_alloc_new wx _, ⟨rfl, .inl ⟨rfl, rfl⟩⟩, rfl, by rw [Fo.take_zero]; trivial⟩, (Below.refl _ _).alloc (Nat.le_refl _) _, by simp⟩⟩
        case round =>
          obtain ⟨j, rfl, hj, ⟨v, L, hbox, hown, hL, hel⟩, hb, hsz⟩ := hrel
          have y2 := (hb.cell (p := ⟨w.heap.size, 2, none⟩) hxl).trans x2
          have hbw := HBX.out.trans (hb.mono HBX.out.size)
          by_cases hjl : j < f.len
          · obtain ⟨b, off, cap, hv, hlc, hcm, hbB, hC⟩ := (HF.out.below (hbw.mono hB)).form (by omega)
            injection hv with e1 _ e3
            subst e1; subst e3
            obtain ⟨e0, e1, e2, he⟩ := tyC_at hC j hjl
            have hsz2 := f.at_size j hjl
            obtain ⟨⟨ke, ne, ⟨a1, a2, a3⟩, pe⟩, hat⟩ : ∃ x, f.at_ j = x := ⟨_, rfl⟩
            rw [hat] at e0 e1 e2 he hsz2
            dsimp only [slv] at e0 e1 e2 he hsz2
            obtain ⟨K, hK⟩ : ∃ K, Fo.sub1 (sg l) ke ne pe = K := ⟨_, rfl⟩
            have hc := IH.out pe ke ne (a1, a2, a3) wr.drew (by omega) (by omega) (by have := hbw.size; simp; omega) ((HL.out.below (hbw.mono hB)).below (Below.refl _ _).drew) (he.below (Below.refl _ _).drew)
            rw [hK] at hc
            obtain ⟨v1, v2, v3⟩ := v
            obtain rfl : v2 = L.length := by
              obtain ⟨A', c', hu, _⟩ := own_form hown
              injection hu
            have hbx2 : wr.cell? ⟨wx.heap.size, 2, none⟩ = some (.slice v1 L.length v3) := cell_of_row wr wx.heap.size 2 _ _ (0, 0) hbox
            have happ : ∀ (w3 : World) (r1 : Option Addr) (r2 r3 : Nat), Below wr.drew.heap.size wr.drew w3 → Std (fun b => b < B0 ∨ wr.drew.heap.size ≤ b) w3 K.2.2 (r1, r2, r3) →
                ∃ (q1 : Option Addr) (q2 q3 : Nat) (W2 : World), (app_ #[23, 23] 23 #[.slice v1 L.length v3, .slice (some ⟨w3.heap.size, 0, none⟩) 1 1]).run Tryd.prog (w3.alloc (.cells #[.int .i64 K.1, .int .i64 K.2.1, .slice r1 r2 r3] 25)) = .ok (.slice q1 q2 q3) W2 ∧
                  w3.cell? ⟨wx.heap.size, 2, none⟩ = some (.slice v1 L.length v3) ∧ (w3.alloc (.cells #[.int .i64 K.1, .int .i64 K.2.1, .slice r1 r2 r3] 25)).cell? ⟨wx.heap.size, 2, none⟩ = some (.slice v1 L.length v3) ∧ W2.cell? ⟨wx.heap.size, 2, none⟩ = some (.slice v1 L.length v3) ∧ W2.frozen? ⟨wx.heap.size, 2, none⟩ = false ∧ Hid (RaInv B0 (sg l) f 1 n wx (j + 1) (W2.setCell ⟨wx.heap.size, 2, none⟩ (.slice q1 q2 q3))) := by
              intro w3 r1 r2 r3 hb3 hst
              have hb3' : Below wr.heap.size wr w3 := (Below.refl wr.heap.size wr).drew.trans hb3
              have o3 : w3.ownsRow (wx.heap.size + 1) 25 3 (slv (v1, L.length, v3)) L.length (L.flatMap trC) := hown.kept (bel_grown hb3') (by cases h : (slv (v1, L.length, v3)).ownBlock <;> simp)
              obtain ⟨⟨q1, q2, q3⟩, W2, hrun, hown2, hg2, hat2⟩ := app_tr (w3.alloc (.cells #[.int .i64 K.1, .int .i64 K.2.1, .slice r1 r2 r3] 25)) (wx.heap.size + 1) _ L (o3.alloc _) (.slice (some ⟨w3.heap.size, 0, none⟩) 1 1) [(K.1, K.2.1, (r1, r2, r3))] (rd_new w3 [.int .i64 K.1, .int .i64 K.2.1, .slice r1 r2 r3] _ 3 1 rfl (by unfold maxLen; omega)) (by simp; omega) (by have := hb3'.size; simp; omega)
              have hrow : ∀ bb, (slv (v1, L.length, v3)).ownBlock = some bb → wx.heap.size + 1 ≤ bb := fun bb h => (hown.lt bb h).1
              have hne : some wx.heap.size ≠ (slv (v1, L.length, v3)).ownBlock := fun e => by have := hrow _ e.symm; omega
              have h0 : W2.heap[wx.heap.size]? = some (Obj.cells #[.int .i64 1, .int .i64 n, slv (v1, L.length, v3)] 25) := (hg2.block _ (by have := hb3'.size; simp; omega) hne).trans ((Below.heap_alloc _ _ _ (by have := hb3'.size; omega)).trans ((hb3'.block _ (by omega)).trans hbox))
              have h3 := (hb3'.block _ (show wx.heap.size < wr.heap.size by omega)).trans hbox
              refine ⟨q1, q2, q3, W2, hrun, cell_of_row w3 wx.heap.size 2 _ _ (0, 0) h3, cell_of_row _ wx.heap.size 2 _ _ (0, 0) ((Below.heap_alloc _ _ _ (by have := hb3'.size; omega)).trans h3), cell_of_row W2 wx.heap.size 2 _ _ (0, 0) h0, frozen_cells h0 2, Lib.hid ?_⟩
              subst hK
              exact RaInv.step (ue := (a1, a2, a3)) hat hjl (Nat.le_trans hB HBX.out.size) hL hbox hown hel hb hsz hb3' hst hown2 _ hg2 hat2
            have HC := Lib.hid hc
            have HAPP := Lib.hid happ
            have HLL := Lib.hid hL
            clear hc happ hel hown hbox hat hK hC he hb hbw hL
            dsimp only [tyVal, slv] at HC
            go_wp2_with fail
            go_region_law (first | (refine step_app (by rfl) (.tmp 32) (.tmp 40) 23 (by rfl) hrun (by rfl) (by rfl) ?_) | (go_simp; go_at_call 11; refine HC.out.mono ?_; rintro e w3 ⟨⟨r1, r2, r3⟩, rfl, hb3, hst⟩; obtain ⟨q1, q2, q3, W2, hrun, z3, z3a, z2, zf, hfin⟩ := HAPP.out w3 r1 r2 r3 hb3 hst; clear hb3 hst))
            all_goals
              go_wp2_with fail
              go_roundw
              case rel => exact ⟨j + 1, by go_num, by omega, hfin.out⟩
              case measure => simp [intOf]; omega
          · obtain rfl : j = f.len := by omega
            rw [Fo.take_len] at hel
            have hst := Elems.std (by rw [hL] at hown ⊢; exact hown) hel
            obtain ⟨v1, v2, v3⟩ := v
            have b0 : wr.cell? ⟨wx.heap.size, 0, none⟩ = some (.int .i64 1) := cell_of_row wr wx.heap.size 0 _ _ (0, 0) hbox
            have b1 : wr.cell? ⟨wx.heap.size, 1, none⟩ = some (.int .i64 n) := cell_of_row wr wx.heap.size 1 _ _ (0, 0) hbox
            have b2 : wr.cell? ⟨wx.heap.size, 2, none⟩ = some (.slice v1 v2 v3) := cell_of_row wr wx.heap.size 2 _ _ (0, 0) hbox
            have hr1 : wr.heap[w.heap.size + 1]? = some (.cells rt0 25) := (hb.block _ hxl1).trans X1.out
            obtain ⟨r0, r1, r2, z0, z1, z2, w4, hw4, hld, hs4, hfar, hb4⟩ := ret_cells (w := wr) (w.heap.size + 1) 1 n (v1, v2, v3) hr1
            have hrow : ∀ bb, (slv (v1, v2, v3)).ownBlock = some bb → wx.heap.size + 1 ≤ bb := fun bb h => (hown.lt bb h).1
            have hfin : Std (fun b => b < B0 ∨ w.heap.size ≤ b) w4 (Fo.sub1 (sg l) 1 n f).2.2 (v1, v2, v3) := by
              rw [HNO.out]
              rw [Fo.sub_pure] at hst
              have hxs := HBX.out.size
              refine hst.to (by omega) fun b hb hS => ⟨?_, hfar b ?_⟩
              · rcases hS with hS | hS
                · omega
                · have := hrow b hS.symm; omega
              · rcases hS with hS | hS
                · omega
                · have := hrow b hS.symm; omega
            have hbel : Below w.heap.size w w4 := hbw.trans (hb4.mono (by omega))
            have HL2 := Lib.hid hld
            have HFI := Lib.hid (And.intro hfin hbel)
            clear hfin hbel hfar hst hel hown hbox hb hbw hld hr1 hrow
            dsimp only [slv] at hw4
            go_wp2_with fail
            refine bodyPost_ret (results_box rfl _ _ _ _ rfl HL2.out) rfl ?_
            exact ⟨(v1, v2, v3), by rw [HNO.out]; rfl, HFI.out.2, HFI.out.1⟩

    case' neg =>
      have f1 : (k == 1) = false := beq_eq_false_iff_ne.2 hk
      have hno : k = 1 → sg l n = none := fun h => absurd h hk
      have x0 := c0
      have x1 := c1
      have x2 := c2
      have hxl : w.heap.size < w2.heap.size := by omega
      have hxl1 : w.heap.size + 1 < w2.heap.size := by omega
      have X1 := H1
      have HBX := HB2
      have HS2 := Lib.hid hs2
      clear c0 c1 c2 hk hs2
      have hsub := Fo.sub1_not (ps := f) hno
      have HNO := Lib.hid hsub
      clear hsub hno
      go_wp2_with fail
      go_loopw [7] (fun s7 wr => ∃ j : Nat, s7 = .int .i64 j ∧ j ≤ f.len ∧ RaInv B0 (sg l) f k n w2 j wr) (fun s _ => f.len - (intOf s).toNat)
      case atStart => exact ⟨0, rfl, Nat.zero_le _, ⟨⟨(none, 0, 0), [], heap_alloc_new w2 _, ⟨rfl, .inl ⟨rfl, rfl⟩⟩, rfl, by rw [Fo.take_zero]; trivial⟩, (Below.refl _ _).alloc (Nat.le_refl _) _, by simp⟩⟩
      case round =>
        obtain ⟨j, rfl, hj, ⟨v, L, hbox, hown, hL, hel⟩, hb, hsz⟩ := hrel
        have y2 := (hb.cell (p := ⟨w.heap.size, 2, none⟩) hxl).trans x2
        have hbw := HBX.out.trans (hb.mono HBX.out.size)
        by_cases hjl : j < f.len
        · obtain ⟨b, off, cap, hv, hlc, hcm, hbB, hC⟩ := (HF.out.below (hbw.mono hB)).form (by omega)
          injection hv with e1 _ e3
          subst e1; subst e3
          obtain ⟨e0, e1, e2, he⟩ := tyC_at hC j hjl
          have hsz2 := f.at_size j hjl
          obtain ⟨⟨ke, ne, ⟨a1, a2, a3⟩, pe⟩, hat⟩ : ∃ x, f.at_ j = x := ⟨_, rfl⟩
          rw [hat] at e0 e1 e2 he hsz2
          dsimp only [slv] at e0 e1 e2 he hsz2
          obtain ⟨K, hK⟩ : ∃ K, Fo.sub1 (sg l) ke ne pe = K := ⟨_, rfl⟩
          have hc := IH.out pe ke ne (a1, a2, a3) wr.drew (by omega) (by omega) (by have := hbw.size; simp; omega) ((HL.out.below (hbw.mono hB)).below (Below.refl _ _).drew) (he.below (Below.refl _ _).drew)
          rw [hK] at hc
          obtain ⟨v1, v2, v3⟩ := v
          obtain rfl : v2 = L.length := by
            obtain ⟨A', c', hu, _⟩ := own_form hown
            injection hu
          have hbx2 : wr.cell? ⟨w2.heap.size, 2, none⟩ = some (.slice v1 L.length v3) := cell_of_row wr w2.heap.size 2 _ _ (0, 0) hbox
          have happ : ∀ (w3 : World) (r1 : Option Addr) (r2 r3 : Nat), Below wr.drew.heap.size wr.drew w3 → Std (fun b => b < B0 ∨ wr.drew.heap.size ≤ b) w3 K.2.2 (r1, r2, r3) →
              ∃ (q1 : Option Addr) (q2 q3 : Nat) (W2 : World), (app_ #[23, 23] 23 #[.slice v1 L.length v3, .slice (some ⟨w3.heap.size, 0, none⟩) 1 1]).run Tryd.prog (w3.alloc (.cells #[.int .i64 K.1, .int .i64 K.2.1, .slice r1 r2 r3] 25)) = .ok (.slice q1 q2 q3) W2 ∧
                w3.cell? ⟨w2.heap.size, 2, none⟩ = some (.slice v1 L.length v3) ∧ (w3.alloc (.cells #[.int .i64 K.1, .int .i64 K.2.1, .slice r1 r2 r3] 25)).cell? ⟨w2.heap.size, 2, none⟩ = some (.slice v1 L.length v3) ∧ W2.cell? ⟨w2.heap.size, 2, none⟩ = some (.slice v1 L.length v3) ∧ W2.frozen? ⟨w2.heap.size, 2, none⟩ = false ∧ Hid (RaInv B0 (sg l) f k n w2 (j + 1) (W2.setCell ⟨w2.heap.size, 2, none⟩ (.slice q1 q2 q3))) := by
            intro w3 r1 r2 r3 hb3 hst
            have hb3' : Below wr.heap.size wr w3 := (Below.refl wr.heap.size wr).drew.trans hb3
            have o3 : w3.ownsRow (w2.heap.size + 1) 25 3 (slv (v1, L.length, v3)) L.length (L.flatMap trC) := hown.kept (bel_grown hb3') (by cases h : (slv (v1, L.length, v3)).ownBlock <;> simp)
            obtain ⟨⟨q1, q2, q3⟩, W2, hrun, hown2, hg2, hat2⟩ := app_tr (w3.alloc (.cells #[.int .i64 K.1, .int .i64 K.2.1, .slice r1 r2 r3] 25)) (w2.heap.size + 1) _ L (o3.alloc _) (.slice (some ⟨w3.heap.size, 0, none⟩) 1 1) [(K.1, K.2.1, (r1, r2, r3))] (rd_new w3 [.int .i64 K.1, .int .i64 K.2.1, .slice r1 r2 r3] _ 3 1 rfl (by unfold maxLen; omega)) (by simp; omega) (by have := hb3'.size; simp; omega)
            have hrow : ∀ bb, (slv (v1, L.length, v3)).ownBlock = some bb → w2.heap.size + 1 ≤ bb := fun bb h => (hown.lt bb h).1
            have hne : some w2.heap.size ≠ (slv (v1, L.length, v3)).ownBlock := fun e => by have := hrow _ e.symm; omega
            have h0 : W2.heap[w2.heap.size]? = some (Obj.cells #[.int .i64 k, .int .i64 n, slv (v1, L.length, v3)] 25) := (hg2.block _ (by have := hb3'.size; simp; omega) hne).trans ((Below.heap_alloc _ _ _ (by have := hb3'.size; omega)).trans ((hb3'.block _ (by omega)).trans hbox))
            have h3 := (hb3'.block _ (show w2.heap.size < wr.heap.size by omega)).trans hbox
            refine ⟨q1, q2, q3, W2, hrun, cell_of_row w3 w2.heap.size 2 _ _ (0, 0) h3, cell_of_row _ w2.heap.size 2 _ _ (0, 0) ((Below.heap_alloc _ _ _ (by have := hb3'.size; omega)).trans h3), cell_of_row W2 w2.heap.size 2 _ _ (0, 0) h0, frozen_cells h0 2, Lib.hid ?_⟩
            subst hK
            exact RaInv.step (ue := (a1, a2, a3)) hat hjl (Nat.le_trans hB HBX.out.size) hL hbox hown hel hb hsz hb3' hst hown2 _ hg2 hat2
          have HC := Lib.hid hc
          have HAPP := Lib.hid happ
          have HLL := Lib.hid hL
          clear hc happ hel hown hbox hat hK hC he hb hbw hL
          dsimp only [tyVal, slv] at HC
          go_wp2_with fail
          go_region_law (first | (refine step_app (by rfl) (.tmp 32) (.tmp 40) 23 (by rfl) hrun (by rfl) (by rfl) ?_) | (go_simp; go_at_call 11; refine HC.out.mono ?_; rintro e w3 ⟨⟨r1, r2, r3⟩, rfl, hb3, hst⟩; obtain ⟨q1, q2, q3, W2, hrun, z3, z3a, z2, zf, hfin⟩ := HAPP.out w3 r1 r2 r3 hb3 hst; clear hb3 hst))
          all_goals
            go_wp2_with fail
            go_roundw
            case rel => exact ⟨j + 1, by go_num, by omega, hfin.out⟩
            case measure => simp [intOf]; omega
        · obtain rfl : j = f.len := by omega
          rw [Fo.take_len] at hel
          have hst := Elems.std (by rw [hL] at hown ⊢; exact hown) hel
          obtain ⟨v1, v2, v3⟩ := v
          have b0 : wr.cell? ⟨w2.heap.size, 0, none⟩ = some (.int .i64 k) := cell_of_row wr w2.heap.size 0 _ _ (0, 0) hbox
          have b1 : wr.cell? ⟨w2.heap.size, 1, none⟩ = some (.int .i64 n) := cell_of_row wr w2.heap.size 1 _ _ (0, 0) hbox
          have b2 : wr.cell? ⟨w2.heap.size, 2, none⟩ = some (.slice v1 v2 v3) := cell_of_row wr w2.heap.size 2 _ _ (0, 0) hbox
          have hr1 : wr.heap[w.heap.size + 1]? = some (.cells rt0 25) := (hb.block _ hxl1).trans X1.out
          obtain ⟨r0, r1, r2, z0, z1, z2, w4, hw4, hld, hs4, hfar, hb4⟩ := ret_cells (w := wr) (w.heap.size + 1) k n (v1, v2, v3) hr1
          have hrow : ∀ bb, (slv (v1, v2, v3)).ownBlock = some bb → w2.heap.size + 1 ≤ bb := fun bb h => (hown.lt bb h).1
          have hfin : Std (fun b => b < B0 ∨ w.heap.size ≤ b) w4 (Fo.sub1 (sg l) k n f).2.2 (v1, v2, v3) := by
            rw [HNO.out]
            rw [Fo.sub_pure] at hst
            have hxs := HBX.out.size
            refine hst.to (by omega) fun b hb hS => ⟨?_, hfar b ?_⟩
            · rcases hS with hS | hS
              · omega
              · have := hrow b hS.symm; omega
            · rcases hS with hS | hS
              · omega
              · have := hrow b hS.symm; omega
          have hbel : Below w.heap.size w w4 := hbw.trans (hb4.mono (by omega))
          have HL2 := Lib.hid hld
          have HFI := Lib.hid (And.intro hfin hbel)
          clear hfin hbel hfar hst hel hown hbox hb hbw hld hr1 hrow
          dsimp only [slv] at hw4
          go_wp2_with fail
          refine bodyPost_ret (results_box rfl _ _ _ _ rfl HL2.out) rfl ?_
          exact ⟨(v1, v2, v3), by rw [HNO.out]; rfl, HFI.out.2, HFI.out.1⟩
end Go.Proofs.YtifdbmdfkhnojaaDoor
