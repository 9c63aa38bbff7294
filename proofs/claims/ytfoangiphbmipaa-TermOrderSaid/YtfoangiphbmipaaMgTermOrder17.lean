/- Texts of one proof, one behind the other. -/
import Derived.Test.YtfoangiphbmipaaMgTermOrder7
import Derived.Test.YtfoangiphbmipaaMgTermOrder6
import Derived.Test.YtfoangiphbmipaaMgTermOrder5
import Derived.Test.YtfoangiphbmipaaMgTermOrder16
import Derived.Test.YtfoangiphbmipaaMgTermOrder10
import Derived.Deep.DeepCutAuto
import Derived.Test.YtfoangiphbmipaaMgTermOrder2
import Derived.Test.YtfoangiphbmipaaProg
import Derived.ProofKit
import Derived.OpenShut
import Derived.Deep.Slices
import Derived.Test.YtfoangiphbmipaaMgTermOrder13
import Derived.Maps.Own
import Derived.Maps.Views
import Derived.Maps.OwnSet
/- types.Same. -/
namespace Go.Proofs.Ytfoangiphbmipaa
open Go.RowKit Go.Shelf
attribute [local go_sem ↓] builtin_app
namespace Fo
theorem same_app (f g f2 g2 : Fo) (h : f.len = g.len) : (f.app f2).same (g.app g2) = (f.same g && f2.same g2) := by
  induction f generalizing g with
  | nil =>
    cases g with
    | nil => simp [app, same]
    | cons => simp [len] at h
  | cons k n u ps r _ ih =>
    cases g with
    | nil => simp [len] at h
    | cons k' n' u' ps' r' =>
      have := ih r' (by simpa [len] using h)
      simp [app, same, this, Bool.and_assoc]
theorem last (F : Fo) (q : Nat) (h : F.len = q + 1) : ∃ (F' : Fo) (k n : Int) (u : Sl) (ps : Fo), F = F'.app (.cons k n u ps .nil) ∧ F'.len = q := by
  induction F generalizing q with
  | nil => simp [len] at h
  | cons k n u ps r _ ih =>
    cases r with
    | nil => exact ⟨.nil, k, n, u, ps, rfl, by simp [len] at h ⊢; omega⟩
    | cons k' n' u' ps' r' =>
      cases q with
      | zero => simp [len] at h
      | succ q =>
        obtain ⟨F', a, b, c, d, h1, h2⟩ := ih q (by simp [len] at h ⊢; omega)
        exact ⟨.cons k n u ps F', a, b, c, d, by rw [h1]; rfl, by simp [len, h2]⟩
end Fo
theorem TyL.unapp {B : Nat} {w : World} {f g : Fo} (h : TyL B w (f.app g)) : TyL B w f ∧ TyL B w g := by
  induction f with
  | nil => exact ⟨trivial, h⟩
  | cons _ _ _ _ r _ ih => exact ⟨⟨h.1, (ih h.2).1⟩, (ih h.2).2⟩
theorem top_len3 (f : Fo) : (f.top.flatMap trC).length = f.len * 3 := by rw [trC_len, Fo.top_len]
/-- The last one's cells. -/
theorem last_cells {w : World} {base a c q : Nat} {F : Fo} {k n : Int} {u : Sl} {ps : Fo} (hq : F.len = q) (h : w.ownsRow base 24 3 (.slice (some ⟨a, 0, none⟩) (q + 1) c) (q + 1) ((F.app (.cons k n u ps .nil)).top.flatMap trC)) :
    w.cell? ⟨a, q * 3, none⟩ = some (.int .i64 k) ∧ w.cell? ⟨a, q * 3 + 1, none⟩ = some (.int .i64 n) ∧ w.cell? ⟨a, q * 3 + 2, none⟩ = some (slv u) ∧
      w.ownsRow base 24 3 (.slice (some ⟨a, 0, none⟩) q c) F.len (F.top.flatMap trC) := by
  have hsl := top_len3 F
  rw [Fo.top_app, List.flatMap_append] at h
  rw [hq] at hsl ⊢
  refine ⟨?_, ?_, ?_, own_cut h q (by omega) hsl⟩
  · rw [h.cellAt _ (by omega), List.getElem?_append_right (by omega), hsl]; simp [trC, Fo.top]
  · rw [h.cellAt _ (by omega), List.getElem?_append_right (by omega), hsl]; simp [trC, Fo.top]
  · rw [h.cellAt _ (by omega), List.getElem?_append_right (by omega), hsl]; simp [trC, Fo.top]
/-- An append of types. -/
theorem app_ty (W : World) (base : Nat) (v : Value) (F : Fo) (own : W.ownsRow base 24 3 v F.len (F.top.flatMap trC)) (vx : Value) (G : Fo) (rd : Rd W 3 vx G.len (G.top.flatMap trC)) (hl : F.len + G.len ≤ 100000000) (hbase : base ≤ W.heap.size) :
    ∃ v' W', (app_ #[22, 22] 22 #[v, vx]).run Try.prog W = .ok v' W' ∧ W'.ownsRow base 24 3 v' (F.app G).len ((F.app G).top.flatMap trC) ∧ Below base W W' ∧ W.grownBy W' v.ownBlock ∧ (v'.ownBlock = v.ownBlock ∨ v'.ownBlock = some W.heap.size) := by
  obtain ⟨i0, hi0, hz0, hz1, hz2⟩ := info_parts tyInfo
  obtain ⟨v1, w1, hrun, hown, hg, hat⟩ := run_append_rd (P := Try.prog) W base 22 22 24 i0 _ 3 40 Try.underlying22 hi0 hz0 hz1 hz2 rfl (by omega) v _ _ own vx _ _ rd (trC_one _) (by unfold maxLen; omega) (by omega) hbase
  refine ⟨v1, w1, hrun, ?_, (Below.refl _ _).grown hg hbase (fun k e => (own.lt k e).1), hg, hat⟩
  rw [Fo.len_app, Fo.top_app, List.flatMap_append]
  exact hown
theorem two_new (w : World) (a b : Obj) : ((w.alloc a).alloc b).drew.heap[w.heap.size]? = some a ∧ ((w.alloc a).alloc b).drew.heap[w.heap.size + 1]? = some b ∧ Below w.heap.size w ((w.alloc a).alloc b).drew := by
  refine ⟨(Below.heap_alloc _ _ _ (by simp)).trans (heap_alloc_new w _), ?_, (((Below.refl _ _).alloc (Nat.le_refl _) _).alloc (by simp) _).drew⟩
  have := heap_alloc_new (w.alloc a) b
  rwa [World.size_alloc] at this
/-- A block that holds one type is a row of one. -/
theorem own_one {w : World} {H g : Nat} {k n : Int} {u : Sl} (hH : H ≤ g) (h : w.heap[g]? = some (Obj.cells #[.int .i64 k, .int .i64 n, slv u] 24)) (ps : Fo) : w.ownsRow H 24 3 (.slice (some ⟨g, 0, none⟩) 1 1) (Fo.cons k n u ps .nil).len ((Fo.cons k n u ps .nil).top.flatMap trC) :=
  ⟨rfl, .inr ⟨g, 1, _, rfl, hH, h, Nat.le_refl _, by unfold maxLen; omega, by simp, by simp [Fo.len, Fo.top, trC]⟩⟩
/-- Two appends, one behind the other, onto two rows. -/
theorem two_apps (W : World) (B base a b q c d : Nat) (F G f g : Fo) (fv gv : Value) (hBb : B ≤ base) (hbase : base ≤ W.heap.size)
    (o1 : W.ownsRow base 24 3 (.slice (some ⟨a, 0, none⟩) q c) F.len (F.top.flatMap trC)) (o2 : W.ownsRow base 24 3 (.slice (some ⟨b, 0, none⟩) q d) G.len (G.top.flatMap trC)) (hne : a ≠ b)
    (hf : TyV B W f fv) (hg : TyV B W g gv) (h1 : F.len + f.len ≤ 100000000) (h2 : G.len + g.len ≤ 100000000) (ha : a < W.heap.size) (hb : b < W.heap.size) :
    ∃ v1 w1 v2 w2, (app_ #[22, 22] 22 #[.slice (some ⟨a, 0, none⟩) q c, fv]).run Try.prog W = .ok v1 w1 ∧ (app_ #[22, 22] 22 #[.slice (some ⟨b, 0, none⟩) q d, gv]).run Try.prog w1 = .ok v2 w2 ∧
      w2.ownsRow base 24 3 v1 (F.app f).len ((F.app f).top.flatMap trC) ∧ w2.ownsRow base 24 3 v2 (G.app g).len ((G.app g).top.flatMap trC) ∧
      (∀ k, v1.ownBlock = some k → v2.ownBlock ≠ some k) ∧ Below base W w2 ∧ (∀ j, j < W.heap.size → j ≠ a → w1.heap[j]? = W.heap[j]?) := by
  obtain ⟨v1, w1, r1, n1, b1, g1, t1⟩ := app_ty W base _ F o1 fv f (TyV.rd3 (by omega) hf) h1 hbase
  have o2' : w1.ownsRow base 24 3 (.slice (some ⟨b, 0, none⟩) q d) G.len (G.top.flatMap trC) := o2.kept g1 (.inr (by simp [Value.ownBlock]; omega))
  have hs1 := g1.size
  obtain ⟨v2, w2, r2, n2, b2, g2, t2⟩ := app_ty w1 base _ G o2' gv g (TyV.rd3 (by omega) (hg.below (b1.mono hBb))) h2 (by omega)
  have e1 : ∀ k, v1.ownBlock = some k → k = a ∨ k = W.heap.size := by
    intro k hk
    rcases t1 with t | t
    · rw [t] at hk; simp [Value.ownBlock] at hk; omega
    · rw [t] at hk; injection hk with hk; omega
  have e2 : ∀ k, v2.ownBlock = some k → k = b ∨ k = w1.heap.size := by
    intro k hk
    rcases t2 with t | t
    · rw [t] at hk; simp [Value.ownBlock] at hk; omega
    · rw [t] at hk; injection hk with hk; omega
  refine ⟨v1, w1, v2, w2, r1, r2, n1.kept g2 ?_, n2, ?_, b1.trans b2, fun j hj hja => g1.block j hj (by simp [Value.ownBlock]; omega)⟩
  · by_cases hn : v1.ownBlock = none
    · exact .inl hn
    · right
      obtain ⟨k, hk⟩ : ∃ k, v1.ownBlock = some k := Option.ne_none_iff_exists'.1 hn
      rw [hk]
      have := e1 k hk
      simp [Value.ownBlock]
      omega
  · intro k hk hk2
    have h3 := e1 k hk
    have h4 := e2 k hk2
    have h5 := (n1.lt k hk).2
    omega
/-- Between two rounds: two stacks of types, as long as each other. -/
def SmInv (w : World) (R : Bool) (t5 t6 : Value) (wr : World) (s : Nat) : Prop :=
  ∃ F G : Fo, F.size = s ∧ F.len = G.len ∧ F.size ≤ 1000000 ∧ G.size ≤ 1000000 ∧ F.same G = R ∧ wr.ownsRow w.heap.size 24 3 t5 F.len (F.top.flatMap trC) ∧ wr.ownsRow w.heap.size 24 3 t6 G.len (G.top.flatMap trC) ∧
    (∀ k, t5.ownBlock = some k → t6.ownBlock ≠ some k) ∧ TyL w.heap.size wr F ∧ TyL w.heap.size wr G ∧ Below w.heap.size w wr
set_option maxHeartbeats 4000000 in
set_option maxRecDepth 100000 in
theorem same_any (w : World) (k n k' n' : Int) (u u' : Sl) (ps ps' : Fo) (hps : TyV w.heap.size w ps (slv u)) (hps' : TyV w.heap.size w ps' (slv u')) (hs : ps.size < 1000000) (hs' : ps'.size < 1000000) :
    Calls Try.prog 41 #[tyVal k n (slv u), tyVal k' n' (slv u')] w fun e w' => e = .returned (.bool (k == k' && n == n' && ps.same ps')) ∧ Below w.heap.size w w' := by
  obtain ⟨u1, u2, u3⟩ := u
  obtain ⟨v1, v2, v3⟩ := u'
  dsimp only [tyVal, slv] at hps hps' ⊢
  have HPS := Lib.hid hps
  have HPS' := Lib.hid hps'
  obtain ⟨R, hR⟩ : ∃ R, (k == k' && n == n' && ps.same ps') = R := ⟨_, rfl⟩
  rw [hR]
  have HRR := Lib.hid hR
  clear hR hps hps'
  obtain ⟨W0, hW0⟩ : ∃ W0, (w.alloc (.cells #[.int .i64 k, .int .i64 n, .slice u1 u2 u3] 24)).alloc (.cells #[.int .i64 k', .int .i64 n', .slice v1 v2 v3] 24) = W0 := ⟨_, rfl⟩
  have hb0 : Below w.heap.size w W0 := by rw [← hW0]; exact ((Below.refl _ _).alloc (Nat.le_refl _) _).alloc (by simp) _
  have hx0 : W0.heap[w.heap.size]? = some (Obj.cells #[.int .i64 k, .int .i64 n, .slice u1 u2 u3] 24) := by
    rw [← hW0]; exact (Below.heap_alloc _ _ _ (by simp)).trans (heap_alloc_new w _)
  have hy0 : W0.heap[w.heap.size + 1]? = some (Obj.cells #[.int .i64 k', .int .i64 n', .slice v1 v2 v3] 24) := by
    rw [← hW0]
    have := heap_alloc_new (w.alloc (.cells #[.int .i64 k, .int .i64 n, .slice u1 u2 u3] 24)) (.cells #[.int .i64 k', .int .i64 n', .slice v1 v2 v3] 24)
    rwa [World.size_alloc] at this
  have x0 : W0.cell? ⟨w.heap.size, 0, none⟩ = some (.int .i64 k) := cell_of_row W0 _ 0 _ _ (0, 0) hx0
  have x1 : W0.cell? ⟨w.heap.size, 1, none⟩ = some (.int .i64 n) := cell_of_row W0 _ 1 _ _ (0, 0) hx0
  have x2 : W0.cell? ⟨w.heap.size, 2, none⟩ = some (.slice u1 u2 u3) := cell_of_row W0 _ 2 _ _ (0, 0) hx0
  have y0 : W0.cell? ⟨w.heap.size + 1, 0, none⟩ = some (.int .i64 k') := cell_of_row W0 _ 0 _ _ (0, 0) hy0
  have y1 : W0.cell? ⟨w.heap.size + 1, 1, none⟩ = some (.int .i64 n') := cell_of_row W0 _ 1 _ _ (0, 0) hy0
  have y2 : W0.cell? ⟨w.heap.size + 1, 2, none⟩ = some (.slice v1 v2 v3) := cell_of_row W0 _ 2 _ _ (0, 0) hy0
  have hsz0 : W0.heap.size = w.heap.size + 2 := by rw [← hW0]; simp
  have HB0 := Lib.hid hb0
  have HZ := Lib.hid hsz0
  have hl0 : w.heap.size < W0.heap.size := by omega
  have hl1 : w.heap.size + 1 < W0.heap.size := by omega
  clear hb0 hx0 hy0 hsz0
  go_enter Try.func41, Try.ntmps41
  go_upto_region 1 with fail
  go_cut [5, 6] (fun s5 s6 wx => ∃ g g' : Nat, s5 = .slice (some ⟨g, 0, none⟩) 1 1 ∧ s6 = .slice (some ⟨g', 0, none⟩) 1 1 ∧ g ≠ g' ∧ w.heap.size ≤ g ∧ w.heap.size ≤ g' ∧ wx.heap[g]? = some (Obj.cells #[.int .i64 k, .int .i64 n, .slice u1 u2 u3] 24) ∧ wx.heap[g']? = some (Obj.cells #[.int .i64 k', .int .i64 n', .slice v1 v2 v3] 24) ∧ Below W0.heap.size W0 wx)
  case first =>
    go_region
    all_goals go_wp2_with fail
    all_goals go_meet
    · obtain ⟨h1, h2, h3⟩ := two_new W0 (Obj.cells #[.int .i64 k, .int .i64 n, .slice u1 u2 u3] 24) (Obj.cells #[.int .i64 k', .int .i64 n', .slice v1 v2 v3] 24)
      exact ⟨_, _, rfl, rfl, by omega, by omega, by omega, h1, h2, h3⟩
    · obtain ⟨h1, h2, h3⟩ := two_new W0 (Obj.cells #[.int .i64 k', .int .i64 n', .slice v1 v2 v3] 24) (Obj.cells #[.int .i64 k, .int .i64 n, .slice u1 u2 u3] 24)
      exact ⟨_, _, rfl, rfl, by omega, by omega, by omega, h2, h1, h3⟩
  case rest =>
    obtain ⟨g, g', rfl, rfl, hne, hg1, hg2, hx, hy, hbc⟩ := hcut
    have hbw : Below w.heap.size w wc := HB0.out.trans (hbc.mono (by omega))
    have hinv : SmInv w R (.slice (some ⟨g, 0, none⟩) 1 1) (.slice (some ⟨g', 0, none⟩) 1 1) wc (1 + ps.size) := by
      refine ⟨.cons k n (u1, u2, u3) ps .nil, .cons k' n' (v1, v2, v3) ps' .nil, by simp [Fo.size], rfl, by simp only [Fo.size]; omega, by simp only [Fo.size]; omega, ?_, own_one hg1 hx ps, own_one hg2 hy ps', ?_, ⟨HPS.out.below hbw, trivial⟩, ⟨HPS'.out.below hbw, trivial⟩, hbw⟩
      · rw [← HRR.out]; simp [Fo.same]
      · intro j h h2
        simp [Value.ownBlock] at h h2
        omega
    have HI := Lib.hid hinv
    clear hinv hbw hx hy hbc hne
    go_wp2_with fail
    go_loopw [5, 6] (fun t5 t6 wr => ∃ s, SmInv w R t5 t6 wr s) (fun t5 t6 wr => least (SmInv w R t5 t6 wr))
    case atStart => exact ⟨_, HI.out⟩
    case round =>
      obtain ⟨s, hs⟩ := hrel
      obtain ⟨⟨F, G, hFs, hFG, hFN, hGN, hFR, hoF, hoG, hap, hTF, hTG, hb⟩, _⟩ := least_of hs
      have HM := Lib.hid hFs
      have HFR := Lib.hid hFR
      have HTF := Lib.hid hTF
      have HTG := Lib.hid hTG
      have HB := Lib.hid hb
      clear hFs hs hFR hTF hTG hb
      rcases Nat.eq_zero_or_pos F.len with h0 | h0
      · have hr : R = true := by
          rw [← HFR.out]
          cases F with
          | nil =>
            cases G with
            | nil => rfl
            | cons => simp [Fo.len] at hFG
          | cons => simp [Fo.len] at h0
        obtain ⟨A, c, rfl, _, _⟩ := own_form hoF
        rw [h0]
        have HR := Lib.hid hr
        clear hr hoF hoG h0 hFG hap
        go_wp2_with fail
        go_ret
        exact ⟨ret_bool HR.out.symm, HB.out⟩
      · obtain ⟨q, hq⟩ : ∃ q, F.len = q + 1 := ⟨F.len - 1, by omega⟩
        obtain ⟨a, ca, rfl, ha1, ha2⟩ := own_shape hoF h0
        obtain ⟨a', cb, rfl, hb1, hb2⟩ := own_shape hoG (by omega)
        have hne : a ≠ a' := fun e => hap a rfl (by rw [e]; rfl)
        have hqm : q ≤ 1000000 := by have := F.len_le_size; omega
        obtain ⟨F', fk, fn, ⟨f1, f2, f3⟩, fps, hFe, hFl⟩ := F.last q hq
        obtain ⟨G', gk, gn, ⟨g1, g2, g3⟩, gps, hGe, hGl⟩ := G.last q (by omega)
        have hGq : G.len = q + 1 := by omega
        rw [hq] at hoF HM ⊢
        rw [hGq] at hoG HM ⊢
        rw [hFe] at hoF
        rw [hGe] at hoG
        obtain ⟨c0, c1, c2, ownF⟩ := last_cells hFl hoF
        obtain ⟨d0, d1, d2, ownG⟩ := last_cells hGl hoG
        have hTF := HTF.out
        have hTG := HTG.out
        have hFR := HFR.out
        rw [hFe] at hTF hFR
        rw [hGe] at hTG hFR
        rw [Fo.same_app _ _ _ _ (hFl.trans hGl.symm)] at hFR
        obtain ⟨hTF1, hTF2⟩ := hTF.unapp
        obtain ⟨hTG1, hTG2⟩ := hTG.unapp
        have hsF : F'.size + (1 + fps.size) = F.size := by rw [hFe, Fo.size_app]; simp [Fo.size]
        have hsG : G'.size + (1 + gps.size) = G.size := by rw [hGe, Fo.size_app]; simp [Fo.size]
        have hlf := fps.len_le_size
        have hlg := gps.len_le_size
        have OF := Lib.hid ownF
        have OG := Lib.hid ownG
        have HT1 := Lib.hid (And.intro hTF1 hTF2.1)
        have HT2 := Lib.hid (And.intro hTG1 hTG2.1)
        have HR2 := Lib.hid hFR
        have HFL := Lib.hid hFl
        have HGL := Lib.hid hGl
        have HSF := Lib.hid hsF
        have HSG := Lib.hid hsG
        have HNE := Lib.hid hne
        dsimp only [slv] at c2 d2
        have hq1 : ((q + 1 : Nat) : Int) - 1 = (q : Int) := by omega
        have hw0 := HB.out.size
        generalize wr = wo at *
        clear hoF hoG hFe hGe hTF hTG hFR hTF1 hTF2 hTG1 hTG2 hsF hsG ownF ownG hFl hGl hq hGq hFG hap hne h0
        go_upto_region 4 with fail
        go_cut [8, 9] from 20 to 60 (fun s8 s9 wx => ∃ gx gy : Nat, s8 = .pointer (some ⟨gx, 0, none⟩) ∧ s9 = .pointer (some ⟨gy, 0, none⟩) ∧ wx.heap[gx]? = some (Obj.cells #[.int .i64 fk, .int .i64 fn, .slice f1 f2 f3] 24) ∧ wx.heap[gy]? = some (Obj.cells #[.int .i64 gk, .int .i64 gn, .slice g1 g2 g3] 24) ∧ wo.heap.size ≤ gx ∧ wo.heap.size ≤ gy ∧ Below wo.heap.size wo wx)
        case first =>
          go_region
          all_goals go_wp2_with fail
          all_goals go_meet
          · obtain ⟨h1, h2, h3⟩ := two_new wo (Obj.cells #[.int .i64 fk, .int .i64 fn, .slice f1 f2 f3] 24) (Obj.cells #[.int .i64 gk, .int .i64 gn, .slice g1 g2 g3] 24)
            exact ⟨_, _, rfl, rfl, h1, h2, by omega, by omega, h3⟩
          · obtain ⟨h1, h2, h3⟩ := two_new wo (Obj.cells #[.int .i64 gk, .int .i64 gn, .slice g1 g2 g3] 24) (Obj.cells #[.int .i64 fk, .int .i64 fn, .slice f1 f2 f3] 24)
            exact ⟨_, _, rfl, rfl, h2, h1, by omega, by omega, h3⟩
        case rest =>
          obtain ⟨gx, gy, rfl, rfl, hx, hy, hgx, hgy, hbc⟩ := hcut
          have e0 : wc.cell? ⟨gx, 0, none⟩ = some (.int .i64 fk) := cell_of_row wc _ 0 _ _ (0, 0) hx
          have e1 : wc.cell? ⟨gx, 1, none⟩ = some (.int .i64 fn) := cell_of_row wc _ 1 _ _ (0, 0) hx
          have e2 : wc.cell? ⟨gx, 2, none⟩ = some (.slice f1 f2 f3) := cell_of_row wc _ 2 _ _ (0, 0) hx
          have i0 : wc.cell? ⟨gy, 0, none⟩ = some (.int .i64 gk) := cell_of_row wc _ 0 _ _ (0, 0) hy
          have i1 : wc.cell? ⟨gy, 1, none⟩ = some (.int .i64 gn) := cell_of_row wc _ 1 _ _ (0, 0) hy
          have i2 : wc.cell? ⟨gy, 2, none⟩ = some (.slice g1 g2 g3) := cell_of_row wc _ 2 _ _ (0, 0) hy
          have hf2 : f2 = fps.len := TyV.len (u := (f1, f2, f3)) HT1.out.2
          have hg2 : g2 = gps.len := TyV.len (u := (g1, g2, g3)) HT2.out.2
          subst hf2; subst hg2
          have HXY := Lib.hid (And.intro hx hy)
          have HBC := Lib.hid hbc
          have HBw := Lib.hid (HB.out.trans (hbc.mono hw0))
          clear hx hy hbc
          have HR3 := Lib.hid (show ((F'.same G') && (fk == gk && fn == gn && fps.same gps)) = R by rw [← HR2.out]; simp [Fo.same])
          by_cases m1 : fk = gk
          case neg =>
            have t1 : (fk != gk) = true := bne_iff_ne.2 m1
            have HE := Lib.hid (show R = false by rw [← HR3.out]; simp [m1])
            clear m1
            go_wp2_with fail
            go_ret
            exact ⟨ret_bool HE.out.symm, HBw.out⟩
          have t1 : (fk != gk) = false := by simp [m1]
          by_cases m2 : fn = gn
          case neg =>
            have t2 : (fn != gn) = true := bne_iff_ne.2 m2
            have HE := Lib.hid (show R = false by rw [← HR3.out]; simp [m2])
            clear m1 m2
            go_wp2_with fail
            go_ret
            exact ⟨ret_bool HE.out.symm, HBw.out⟩
          have t2 : (fn != gn) = false := by simp [m2]
          by_cases m3 : fps.len = gps.len
          case neg =>
            have t3 : ((fps.len : Int) != (gps.len : Int)) = true := bne_iff_ne.2 (by omega)
            have HE := Lib.hid (show R = false by
              rw [← HR3.out]
              have : fps.same gps = false := by
                cases hh : fps.same gps
                · rfl
                · exact absurd (Fo.same_len _ _ hh) m3
              simp [this])
            clear m1 m2 m3
            go_wp2_with fail
            go_ret
            exact ⟨ret_bool HE.out.symm, HBw.out⟩
          have t3 : ((fps.len : Int) != (gps.len : Int)) = false := by simp [m3]
          have HM3 := Lib.hid (And.intro m1 (And.intro m2 m3))
          clear m1 m2 m3
          have hbc := HBC.out
          have hsc := hbc.size
          have hxl : gx < wc.heap.size := (Array.getElem?_eq_some_iff.1 HXY.out.1).1
          have hyl : gy < wc.heap.size := (Array.getElem?_eq_some_iff.1 HXY.out.2).1
          have hbd : Below w.heap.size wo wc.drew := (hbc.mono hw0).drew
          have hlen := HSF.out
          have hlen2 := HSG.out
          have hl1 := F'.len_le_size
          have hl2 := G'.len_le_size
          have oF : wc.drew.ownsRow w.heap.size 24 3 (.slice (some ⟨a, 0, none⟩) q ca) F'.len (F'.top.flatMap trC) := (own_below OF.out hbc).drew
          have oG : wc.drew.ownsRow w.heap.size 24 3 (.slice (some ⟨a', 0, none⟩) q cb) G'.len (G'.top.flatMap trC) := (own_below OG.out hbc).drew
          have hsd : w.heap.size ≤ wc.drew.heap.size := Nat.le_trans hw0 hsc
          have hqa : q ≤ ca := by
            obtain ⟨_, _, hv, h1, _⟩ := own_form oF
            injection hv with _ h2 h3
            omega
          have hqb : q ≤ cb := by
            obtain ⟨_, _, hv, h1, _⟩ := own_form oG
            injection hv with _ h2 h3
            omega
          obtain ⟨va, wa1, vb, wa2, ra1, ra2, na1, na2, npa, nba, nka⟩ := two_apps wc.drew w.heap.size w.heap.size a a' q ca cb F' G' fps gps (.slice f1 fps.len f3) (.slice g1 gps.len g3) (Nat.le_refl _) hsd oF oG HNE.out (HT1.out.2.below hbd) (HT2.out.2.below hbd) (by omega) (by omega) (Nat.lt_of_lt_of_le ha2 hsc) (Nat.lt_of_lt_of_le hb2 hsc)
          obtain ⟨vc, wb1, vd, wb2, rb1, rb2, nb1, nb2, npb, nbb, nkb⟩ := two_apps wc.drew w.heap.size w.heap.size a' a q cb ca G' F' gps fps (.slice g1 gps.len g3) (.slice f1 fps.len f3) (Nat.le_refl _) hsd oG oF (fun e => HNE.out e.symm) (HT2.out.2.below hbd) (HT1.out.2.below hbd) (by omega) (by omega) (Nat.lt_of_lt_of_le hb2 hsc) (Nat.lt_of_lt_of_le ha2 hsc)
          have j2 : wa1.cell? ⟨gy, 2, none⟩ = some (.slice g1 gps.len g3) := cell_of_row wa1 _ 2 _ _ (0, 0) ((nka gy hyl (by omega)).trans HXY.out.2)
          have k2 : wb1.cell? ⟨gx, 2, none⟩ = some (.slice f1 fps.len f3) := cell_of_row wb1 _ 2 _ _ (0, 0) ((nkb gx hxl (by omega)).trans HXY.out.1)
          have hsame : (F'.app fps).same (G'.app gps) = R := by
            rw [← HR3.out, Fo.same_app _ _ _ _ (HFL.out.trans HGL.out.symm)]
            simp [HM3.out.1, HM3.out.2.1]
          have hlenE : (F'.app fps).len = (G'.app gps).len := by
            rw [Fo.len_app, Fo.len_app, HFL.out, HGL.out, HM3.out.2.2]
          have FA := Lib.hid (show SmInv w R va vb wa2 (F'.app fps).size from ⟨F'.app fps, G'.app gps, rfl, hlenE, by rw [Fo.size_app]; omega, by rw [Fo.size_app]; omega, hsame, na1, na2, npa, (HT1.out.1.below (hbd.trans nba)).app ((HT1.out.2.below (hbd.trans nba)).list), (HT2.out.1.below (hbd.trans nba)).app ((HT2.out.2.below (hbd.trans nba)).list), HB.out.trans (hbd.trans nba)⟩)
          have FB := Lib.hid (show SmInv w R vd vc wb2 (F'.app fps).size from ⟨F'.app fps, G'.app gps, rfl, hlenE, by rw [Fo.size_app]; omega, by rw [Fo.size_app]; omega, hsame, nb2, nb1, fun k h1 h2 => npb k h2 h1, (HT1.out.1.below (hbd.trans nbb)).app ((HT1.out.2.below (hbd.trans nbb)).list), (HT2.out.1.below (hbd.trans nbb)).app ((HT2.out.2.below (hbd.trans nbb)).list), HB.out.trans (hbd.trans nbb)⟩)
          have HSZ := Lib.hid (show (F'.app fps).size < F.size by rw [Fo.size_app]; omega)
          have hz0 : (0 : Int) ≤ (q : Int) := by omega
          have hza : decide ((q : Int) ≤ (ca : Int)) = true := decide_eq_true (by omega)
          have hzb : decide ((q : Int) ≤ (cb : Int)) = true := decide_eq_true (by omega)
          clear hbc hlen hlen2 oF oG na1 na2 npa nba nka nb1 nb2 npb nbb nkb hsame hlenE hbd hsc hsd
          go_wp2_with fail
          go_region
          all_goals go_wp2_with fail
          all_goals go_roundw
          case rel => first | exact ⟨_, FA.out⟩ | exact ⟨_, FB.out⟩
          case measure => exact Nat.lt_of_le_of_lt (least_of FA.out).2 (Nat.lt_of_lt_of_le HSZ.out (Nat.le_of_eq HM.out))
end Go.Proofs.Ytfoangiphbmipaa
/- An argument that is a slice of types, opened. -/
namespace Go.Proofs.Ytfoangiphbmipaa
open Go.RowKit Go.ChangeShapes Go.WideShapes Go.ChangeAt Go.Deep

namespace Fo
/-- Each number is one that an int may be. -/
def wf : Fo → Prop
  | nil => True
  | cons _ n _ ps r => (Lit.int .i64 n).wf = true ∧ ps.wf ∧ r.wf
theorem wf_app {f g : Fo} (h : f.wf) (k : g.wf) : (f.app g).wf := by
  induction f with
  | nil => exact k
  | cons _ _ _ _ r _ ih => exact ⟨h.1, h.2.1, ih h.2.2⟩
end Fo
theorem listOf {α : Type} (P : Nat → α → Prop) (n : Nat) (h : ∀ i, i < n → ∃ t, P i t) : ∃ ts : List α, ts.length = n ∧ ∀ i (hi : i < ts.length), P i ts[i] := by
  induction n with
  | zero => exact ⟨[], rfl, by simp⟩
  | succ n ih =>
    obtain ⟨ts, hl, hP⟩ := ih (fun i hi => h i (by omega))
    obtain ⟨t, ht⟩ := h n (by omega)
    refine ⟨ts ++ [t], by simp [hl], fun i hi => ?_⟩
    rcases Nat.lt_or_ge i ts.length with hlt | hge
    · rw [List.getElem_append_left hlt]; exact hP i hlt
    · have : i = ts.length := by simp at hi; omega
      subst this
      have e : (ts ++ [t])[ts.length] = t := by simp
      rw [e, hl]
      exact ht
def foOf : List (Int × Int × Sl × Fo) → Fo
  | [] => .nil
  | t :: r => .cons t.1 t.2.1 t.2.2.1 t.2.2.2 (foOf r)
theorem foOf_len (ts : List (Int × Int × Sl × Fo)) : (foOf ts).len = ts.length := by
  induction ts with
  | nil => rfl
  | cons t r ih => simp [foOf, Fo.len, ih]
theorem foOf_wf (ts : List (Int × Int × Sl × Fo)) (h : ∀ i (hi : i < ts.length), (Lit.int .i64 ts[i].2.1).wf = true ∧ ts[i].2.2.2.wf) : (foOf ts).wf := by
  induction ts with
  | nil => trivial
  | cons t r ih =>
    have h0 := h 0 (by simp)
    exact ⟨h0.1, h0.2, ih fun i hi => by have := h (i + 1) (by simp; omega); simpa using this⟩
theorem foOf_cells {B : Nat} {w : World} {b : Nat} (ts : List (Int × Int × Sl × Fo)) (off : Nat)
    (h : ∀ i (hi : i < ts.length), w.cell? ⟨b, off + i * 3, none⟩ = some (.int .i64 ts[i].1) ∧ w.cell? ⟨b, off + i * 3 + 1, none⟩ = some (.int .i64 ts[i].2.1) ∧ w.cell? ⟨b, off + i * 3 + 2, none⟩ = some (slv ts[i].2.2.1) ∧ TyV B w ts[i].2.2.2 (slv ts[i].2.2.1)) : TyC B w (foOf ts) b off := by
  induction ts generalizing off with
  | nil => exact tyC_nil
  | cons t r ih =>
    have h0 := h 0 (by simp)
    simp only [Nat.zero_mul, Nat.add_zero, List.getElem_cons_zero] at h0
    refine tyC_cons.2 ⟨h0.1, h0.2.1, h0.2.2.1, h0.2.2.2, ih (off + 3) fun i hi => ?_⟩
    have h1 := h (i + 1) (by simp; omega)
    simp only [List.getElem_cons_succ] at h1
    rw [show off + 3 + i * 3 = off + (i + 1) * 3 by omega]
    exact h1
set_option maxRecDepth 100000 in
theorem types_read {H : Type} {enc : TypeId × Value → H} {W : World} (fuel : Nat) : ∀ (v : Value) (x : DataW H × List MemPlace), DataW.trod enc Try.prog W 0 (fun _ => true) true fuel 22 [v] = some x → ∃ (F : Fo) (u : Sl), v = slv u ∧ TyV W.heap.size W F v ∧ F.wf := by
  induction fuel using Nat.strongRecOn with
  | ind fuel ih =>
    intro v x h
    rcases DataW.trod_slice Try.underlying22 h with ⟨hcs, _⟩ | ⟨a, len, cap, elems, rest, n, hfu, hcs, _, _, hl, hm, hlen, hel, _, _⟩
    · simp at hcs
      subst hcs
      exact ⟨.nil, (none, 0, 0), rfl, tyV_nil.2 ⟨none, 0, rfl⟩, trivial⟩
    · simp at hcs
      subst hcs
      have hC : Try.prog.cellsOf 24 = 3 := by kernel_rfl
      have hI : Try.prog.cellsOf 3 = 1 := by kernel_rfl
      have hS : Try.prog.cellsOf 22 = 1 := by kernel_rfl
      rw [hC] at hel
      have key : ∀ i, i < len → ∃ t : Int × Int × Sl × Fo, W.cell? (a.add (i * 3)) = some (.int .i64 t.1) ∧ W.cell? ((a.add (i * 3)).add 1) = some (.int .i64 t.2.1) ∧ W.cell? ((a.add (i * 3)).add 2) = some (slv t.2.2.1) ∧ TyV W.heap.size W t.2.2.2 (slv t.2.2.1) ∧ (Lit.int .i64 t.2.1).wf = true ∧ t.2.2.2.wf := by
        intro i hil
        have he := hel i hil
        rw [List.getElem?_eq_getElem (by omega)] at he
        obtain ⟨cs', hc, ht'⟩ := Option.bind_eq_some_iff.1 he
        obtain ⟨ys, n', hn', _, hlen2, hyl, hfld⟩ := DataW.trod_struct Try.underlying24 ht'
        rw [hC] at hlen2
        obtain ⟨_, hcl, hat⟩ := World.cells?_some hc
        have q0 : DataW.trod enc Try.prog W 0 (fun _ => true) true n' 3 ((cs'.drop 0).take (Try.prog.cellsOf 3)) = ys[0]? := hfld 0 _ rfl
        have q1 : DataW.trod enc Try.prog W 0 (fun _ => true) true n' 3 ((cs'.drop 1).take (Try.prog.cellsOf 3)) = ys[1]? := hfld 1 _ rfl
        have q2 : DataW.trod enc Try.prog W 0 (fun _ => true) true n' 22 ((cs'.drop 2).take (Try.prog.cellsOf 22)) = ys[2]? := hfld 2 _ rfl
        have hyl' : ys.length = 3 := hyl
        rw [hI, List.getElem?_eq_getElem (by omega)] at q0
        rw [hI, List.getElem?_eq_getElem (by omega)] at q1
        rw [hS, List.getElem?_eq_getElem (by omega)] at q2
        obtain ⟨k0, hk0, _, _⟩ := DataW.trod_int Try.underlying3 q0
        obtain ⟨k1, hk1, _, hw1⟩ := DataW.trod_int Try.underlying3 q1
        match cs', hlen2 with
        | [c0, c1, c2], _ =>
          obtain ⟨F, u, hu, hF, hFw⟩ := ih n' (by omega) c2 _ q2
          simp at hk0 hk1
          subst hk0; subst hk1; subst hu
          refine ⟨(k0, k1, u, F), ?_, ?_, ?_, hF, hw1, hFw⟩
          · have := hat 0 (by omega)
            simpa [Addr.add] using this
          · exact hat 1 (by omega)
          · exact hat 2 (by omega)
      by_cases h0 : len = 0
      · subst h0
        exact ⟨.nil, (some a, 0, cap), rfl, tyV_nil.2 ⟨_, _, rfl⟩, trivial⟩
      · obtain ⟨b, off, spot⟩ := a
        obtain ⟨t0, hc0, _⟩ := key 0 (by omega)
        have hspot : spot = none := by simpa [Addr.add] using World.cell?_spot hc0
        subst hspot
        have hb : b < W.heap.size := by simpa [Addr.add] using World.block_lt_of_cell? _ _ hc0
        obtain ⟨ts, htl, hP⟩ := listOf _ len key
        have hTC : TyC W.heap.size W (foOf ts) b off := foOf_cells ts off fun i hi => by
          have hP2 := hP i hi
          simp only [Addr.add_lit] at hP2
          exact ⟨hP2.1, hP2.2.1, hP2.2.2.1, hP2.2.2.2.1⟩
        have hWF : (foOf ts).wf := foOf_wf ts fun i hi => (hP i hi).2.2.2.2
        cases ts with
        | nil => simp at htl; omega
        | cons t r =>
          refine ⟨foOf (t :: r), (some ⟨b, off, none⟩, len, cap), rfl, tyV_cons.2 ⟨b, off, cap, ?_, ?_, hm, hb, hTC⟩, hWF⟩
          · rw [foOf_len, ← htl]; rfl
          · rw [foOf_len]; simp at htl; omega
theorem ArgTy_open {H : Type} {enc : TypeId × Value → H} {W : World} {v : Value} {d : DataW H} {p : List MemPlace}
    (h : DataW.Trod enc Try.prog W 0 (fun _ => true) true 22 v d p) (hc : v.cells = #[v]) : ∃ F, TyV W.heap.size W F v := by
  obtain ⟨fuel, hf⟩ := h
  rw [hc] at hf
  obtain ⟨F, _, _, hF, _⟩ := types_read fuel v _ hf
  exact ⟨F, hF⟩
end Go.Proofs.Ytfoangiphbmipaa
/- Maps whose keys are numbers: what keys them. -/
namespace Go.Proofs.Ytfoangiphbmipaa
open Go.RowKit Go.Shelf Go.Maps Go.WideShapes
theorem lawI : Keyed Try.prog 3 := int_keyed Try.underlying3
end Go.Proofs.Ytfoangiphbmipaa
