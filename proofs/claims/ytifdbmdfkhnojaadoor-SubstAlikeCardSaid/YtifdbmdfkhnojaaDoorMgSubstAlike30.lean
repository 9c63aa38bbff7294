/- Texts of one proof, one behind the other. -/
import Derived.Test.YtifdbmdfkhnojaaDoorMgSubstAlike29
import Derived.Deep.RegionHeld3
/- subst.Apply; types.Copy's and apply's answers stored. -/
namespace Go.Proofs.YtifdbmdfkhnojaaDoor
open Go.RowKit Go.Shelf
/-- What is known of binds that came in. -/
structure BdG (w : World) (l : List Bnd) (v : Value) (S : Nat) : Prop where
  at_ : BdV w.heap.size w l v
  wf : BdW l
  len : l.length ≤ 100000
  size : ∀ b ∈ l, 1 + b.2.2.2.2.size ≤ S
theorem BdG.later {w w' : World} {l : List Bnd} {v : Value} {S : Nat} (h : BdG w l v S) (hb : Below w.heap.size w w') : BdG w' l v S := ⟨h.at_.later hb, h.wf, h.len, h.size⟩
theorem BdG.types {w : World} {l : List Bnd} {v : Value} {S : Nat} (h : BdG w l v S) (hS : S ≤ 1000000) : ∀ b ∈ l, TyV w.heap.size w b.2.2.2.2 (slv b.2.2.2.1) ∧ b.2.2.2.2.size < 1000000 := fun b hb => by
  obtain ⟨A, c, _, _, h2⟩ := h.at_
  exact ⟨h2 b hb, by have := h.size b hb; omega⟩
/-- What is known of a type that came in. -/
structure TyG (w : World) (k n : Int) (u : Sl) (ps : Fo) : Prop where
  at_ : TyV w.heap.size w ps (slv u)
  size : ps.size < 1000000
  n : (Lit.int .i64 n).wf = true
  wf : ps.wf
theorem TyG.later {w w' : World} {k n : Int} {u : Sl} {ps : Fo} (h : TyG w k n u ps) (hb : Below w.heap.size w w') : TyG w' k n u ps := ⟨h.at_.later hb, h.size, h.n, h.wf⟩
set_option maxHeartbeats 2000000 in
set_option maxRecDepth 100000 in
theorem sapply_any (w : World) (l : List Bnd) (v : Value) (hl : BdG w l v 1000000) (k n : Int) (u : Sl) (ps : Fo) (ht : TyG w k n u ps) :
    Calls Tryd.prog 13 #[v, tyVal k n (slv u)] w fun e w' => ∃ u' : Sl, e = .returned (tyVal (Fo.sub1 (sg l) k n ps).1 (Fo.sub1 (sg l) k n ps).2.1 (slv u')) ∧ Below w.heap.size w w' ∧ FreshP 25 w.heap.size w' (Fo.sub1 (sg l) k n ps).2.2 u' := by
  obtain ⟨X, hX⟩ : ∃ X, Fo.sub1 (sg l) k n ps = X := ⟨_, rfl⟩
  rw [hX]
  obtain ⟨u1, u2, u3⟩ := u
  obtain ⟨A, c, rfl⟩ := hl.at_.form
  obtain ⟨w2, hw2⟩ : ∃ w2, (w.alloc (.cells #[.int .i64 k, .int .i64 n, .slice u1 u2 u3] 25)).alloc (.cells #[.int .i64 0, .int .i64 0, .slice none 0 0] 25) = w2 := ⟨_, rfl⟩
  have hs2 : w2.heap.size = w.heap.size + 1 + 1 := by rw [← hw2]; simp
  have hb2 : Below w.heap.size w w2 := by rw [← hw2]; exact ((Below.refl _ w).alloc (Nat.le_refl _) _).alloc (by simp) _
  have h0 : w2.heap[w.heap.size]? = some (.cells #[.int .i64 k, .int .i64 n, .slice u1 u2 u3] 25) := by
    rw [← hw2]; exact (Below.heap_alloc _ _ _ (by simp)).trans (heap_alloc_new w _)
  have h1 : w2.heap[w.heap.size + 1]? = some (.cells rt0 25) := by
    rw [← hw2]
    have := heap_alloc_new (w.alloc (.cells #[.int .i64 k, .int .i64 n, .slice u1 u2 u3] 25)) (.cells #[.int .i64 0, .int .i64 0, .slice none 0 0] 25)
    rwa [World.size_alloc] at this
  have c0 : w2.drew.cell? ⟨w.heap.size, 0, none⟩ = some (.int .i64 k) := cell_of_row w2 w.heap.size 0 _ _ (0, 0) h0
  have c1 : w2.drew.cell? ⟨w.heap.size, 1, none⟩ = some (.int .i64 n) := cell_of_row w2 w.heap.size 1 _ _ (0, 0) h0
  have c2 : w2.drew.cell? ⟨w.heap.size, 2, none⟩ = some (.slice u1 u2 u3) := cell_of_row w2 w.heap.size 2 _ _ (0, 0) h0
  have hb2d : Below w.heap.size w w2.drew := hb2.drew
  have hbv := byvar_any w2.drew w2.heap.size l _ (Nat.le_refl _) (hl.at_.later hb2d) hl.wf hl.len
  have HAP : ∀ (wb : World) (bm : Nat), Below w2.heap.size w2.drew wb → MapF (mv l) (cnt l).length l.length bm wb → Calls Tryd.prog 36 #[.map (some bm), tyVal k n (.slice u1 u2 u3)] wb fun e w' => ∃ u' : Sl, e = .returned (tyVal X.1 X.2.1 (slv u')) ∧ Below wb.heap.size wb w' ∧ FreshP 25 wb.heap.size w' X.2.2 u' := by
    intro wb bm hbb hm
    have hbw : Below w.heap.size w wb := hb2d.trans (hbb.mono (by omega))
    have := apply_bind wb l (.map (some bm)) (.inr ⟨bm, _, _, rfl, hm⟩) ((hl.later hbw).types (Nat.le_refl _)) k n (u1, u2, u3) ps (ht.later hbw).at_ ht.size ht.n ht.wf
    rw [hX] at this
    exact this
  have HBV := Lib.hid hbv
  have HAPP := Lib.hid HAP
  have HB := Lib.hid hb2
  have H1 := Lib.hid h1
  have hlt : w.heap.size < w2.heap.size := by omega
  clear hbv HAP hb2 hb2d h0 h1 hl ht hX
  dsimp only [tyVal, slv] at HAPP ⊢
  go_enter Tryd.func13, Tryd.ntmps13
  go_wp2_with fail
  go_region_held3 (fun w' => w'.cell? ⟨w.heap.size, 0, none⟩ = some (.int .i64 k) ∧ w'.cell? ⟨w.heap.size, 1, none⟩ = some (.int .i64 n) ∧ w'.cell? ⟨w.heap.size, 2, none⟩ = some (.slice u1 u2 u3))
    (first | exact ⟨c0, c1, c2⟩ | exact ⟨d0, d1, d2⟩ | exact ⟨f0, f1, f2⟩ | exact ⟨g0, g1, g2⟩)
    (first
      | (go_at_call 35; refine (HBV.out).mono ?_; rintro e wb ⟨bm, rfl, _, hm, hbb⟩; obtain ⟨d0, d1, d2⟩ := And.intro ((hbb.cell (p := ⟨w.heap.size, 0, none⟩) hlt).trans c0) (And.intro ((hbb.cell (p := ⟨w.heap.size, 1, none⟩) hlt).trans c1) ((hbb.cell (p := ⟨w.heap.size, 2, none⟩) hlt).trans c2)))
      | (go_at_call 36; refine (HAPP.out _ _ hbb hm).mono ?_; rintro e wc ⟨⟨r1, r2, r3⟩, rfl, hbc, hF⟩; have hltb : w.heap.size < wb.heap.size := Nat.lt_of_lt_of_le hlt hbb.size; obtain ⟨f0, f1, f2⟩ := And.intro ((hbc.cell (p := ⟨w.heap.size, 0, none⟩) hltb).trans d0) (And.intro ((hbc.cell (p := ⟨w.heap.size, 1, none⟩) hltb).trans d1) ((hbc.cell (p := ⟨w.heap.size, 2, none⟩) hltb).trans d2)); have HRR := Lib.hid ((hbc.block (w.heap.size + 1) (by have := hbb.size; simp at this; omega)).trans ((hbb.block (w.heap.size + 1) (by simp; omega)).trans H1.out)); obtain ⟨y0, y1, y2, z0, z1, z2, w4, hw4, hld, hsz, hfar, hbl⟩ := ret_cells (w := wc) (w.heap.size + 1) X.1 X.2.1 (r1, r2, r3) HRR.out; have HL := Lib.hid hld; have HFR := Lib.hid hfar; clear hld hfar; obtain ⟨g0, g1, g2⟩ := And.intro ((hbl.cell (p := ⟨w.heap.size, 0, none⟩) (Nat.lt_succ_self _)).trans f0) (And.intro ((hbl.cell (p := ⟨w.heap.size, 1, none⟩) (Nat.lt_succ_self _)).trans f1) ((hbl.cell (p := ⟨w.heap.size, 2, none⟩) (Nat.lt_succ_self _)).trans f2)); dsimp only [slv] at hw4))
  have hbw : Below w.heap.size w wc := (HB.out.drew.trans (hbb.mono (by simp; omega))).trans (hbc.mono (by have := hbb.size; simp at this; omega))
  have hwb : w.heap.size + 1 < wb.heap.size := by have := hbb.size; simp at this; omega
  clear g0 g1 g2 f0 f1 f2 d0 d1 d2 c0 c1 c2 y0 y1 y2 z0 z1 z2 hw4
  go_wp2_with fail
  refine bodyPost_ret (results_box rfl _ _ _ _ rfl HL.out) rfl ?_
  exact ⟨(r1, r2, r3), rfl, hbw.trans (hbl.mono (by omega)), FreshP.mono (hF.to (by omega) fun b cs hb hc => (HFR.out b (by omega)).trans hc) (by omega)⟩
end Go.Proofs.YtifdbmdfkhnojaaDoor
