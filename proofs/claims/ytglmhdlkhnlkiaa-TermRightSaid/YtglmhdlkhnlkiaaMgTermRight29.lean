/- Texts of one proof, one behind the other. -/
import Derived.Test.YtglmhdlkhnlkiaaMgTermRight28
import Derived.Test.YtglmhdlkhnlkiaaMgTermRight16
import Derived.Test.YtglmhdlkhnlkiaaMgTermRight26
/- term.alike: two stacks of terms, side by side. -/
namespace Go.Proofs.Ytglmhdlkhnlkiaa
open Go.RowKit Go.Shelf
attribute [local go_sem ↓] builtin_app
attribute [local go_sem] Oper.semAt_some
namespace Te
theorem same_app {all : Bool} (f g f2 g2 : Te) (h : f.len = g.len) : (f.app f2).same all (g.app g2) = (f.same all g && f2.same all g2) := by
  induction f generalizing g with
  | nil =>
    cases g with
    | nil => simp [app, same]
    | cons => simp [len] at h
  | cons x ps r _ ih =>
    cases g with
    | nil => simp [len] at h
    | cons x' ps' r' =>
      have := ih r' (by simpa [len] using h)
      simp [app, same, this, Bool.and_assoc]
theorem all_unapp {P : Nd → Prop} {f g : Te} (h : (f.app g).all P) : f.all P ∧ g.all P := by
  induction f with
  | nil => exact ⟨trivial, h⟩
  | cons x ps r _ ih => exact ⟨⟨h.1, h.2.1, (ih h.2.2).1⟩, (ih h.2.2).2⟩
end Te
theorem TeV.len_ {B : Nat} {w : World} {f : Te} {u : Sl} (h : TeV B w f (slv u)) : u.2.1 = f.len := by
  obtain ⟨A, c, hv⟩ := h.slice
  unfold slv at hv
  injection hv
/-- The last one's cells. -/
theorem elast_cells {w : World} {base a c q : Nat} {F : Te} {x : Nd} {ps : Te} (hq : F.len = q) (h : w.ownsRow base 29 9 (.slice (some ⟨a, 0, none⟩) (q + 1) c) (q + 1) (F.app (.cons x ps .nil)).cells) :
    NdAt w a (q * 9) x ∧ w.ownsRow base 29 9 (.slice (some ⟨a, 0, none⟩) q c) F.len F.cells := by
  have hsl := F.cells_len
  rw [Te.cells_app] at h
  rw [hq] at hsl ⊢
  refine ⟨NdAt.of_cells fun j u hu => ?_, own_cut h q (by omega) hsl⟩
  have hj : j < 9 := (List.getElem?_eq_some_iff.1 hu).1
  rw [h.cellAt _ (by omega), List.getElem?_append_right (by omega), hsl, show q * 9 + j - q * 9 = j by omega]
  simpa [Te.cells, Te.top] using hu
/-- An append of terms. -/
theorem app_te (W : World) (base : Nat) (v : Value) (F : Te) (own : W.ownsRow base 29 9 v F.len F.cells) (vx : Value) (G : Te) (rd : Rd W 9 vx G.len G.cells) (hl : F.len + G.len ≤ 100000000) (hbase : base ≤ W.heap.size) :
    ∃ v' W', (app_ #[25, 25] 25 #[v, vx]).run Try.prog W = .ok v' W' ∧ W'.ownsRow base 29 9 v' (F.app G).len (F.app G).cells ∧ Below base W W' ∧ W.grownBy W' v.ownBlock ∧ (v'.ownBlock = v.ownBlock ∨ v'.ownBlock = some W.heap.size) := by
  obtain ⟨i0, hi0, hz0, hz1, hz2⟩ := info_parts teInfo
  obtain ⟨v1, w1, hrun, hown, hg, hat⟩ := run_append_rd (P := Try.prog) W base 25 25 29 i0 _ 9 112 Try.underlying25 hi0 hz0 hz1 hz2 rfl (by omega) v _ _ own vx _ _ rd (Te.cells_one _) (by unfold maxLen; omega) (by omega) hbase
  refine ⟨v1, w1, hrun, ?_, (Below.refl _ _).grown hg hbase (fun k e => (own.lt k e).1), hg, hat⟩
  rw [Te.len_app, Te.cells_app]
  exact hown
/-- A block that holds one term is a row of one. -/
theorem eown_one {w : World} {H g : Nat} (x : Nd) (hH : H ≤ g) (h : w.heap[g]? = some (Obj.cells (ndC x).toArray 29)) (ps : Te) : w.ownsRow H 29 9 (.slice (some ⟨g, 0, none⟩) 1 1) (Te.cons x ps .nil).len (Te.cons x ps .nil).cells :=
  ⟨rfl, .inr ⟨g, 1, _, rfl, hH, h, Nat.le_refl _, by unfold maxLen; omega, by simp [ndC], by simp [Te.len, Te.top, Te.cells]; rfl⟩⟩
/-- Two appends, one behind the other, onto two rows. -/
theorem etwo_apps (W : World) (B base a b q c d : Nat) (F G f g : Te) (fv gv : Value) (hBb : B ≤ base) (hbase : base ≤ W.heap.size)
    (o1 : W.ownsRow base 29 9 (.slice (some ⟨a, 0, none⟩) q c) F.len F.cells) (o2 : W.ownsRow base 29 9 (.slice (some ⟨b, 0, none⟩) q d) G.len G.cells) (hne : a ≠ b)
    (hf : TeV B W f fv) (hg : TeV B W g gv) (h1 : F.len + f.len ≤ 100000000) (h2 : G.len + g.len ≤ 100000000) (ha : a < W.heap.size) (hb : b < W.heap.size) :
    ∃ v1 w1 v2 w2, (app_ #[25, 25] 25 #[.slice (some ⟨a, 0, none⟩) q c, fv]).run Try.prog W = .ok v1 w1 ∧ (app_ #[25, 25] 25 #[.slice (some ⟨b, 0, none⟩) q d, gv]).run Try.prog w1 = .ok v2 w2 ∧
      w2.ownsRow base 29 9 v1 (F.app f).len (F.app f).cells ∧ w2.ownsRow base 29 9 v2 (G.app g).len (G.app g).cells ∧
      (∀ k, v1.ownBlock = some k → v2.ownBlock ≠ some k) ∧ Below base W w2 ∧ (∀ j, j < W.heap.size → j ≠ a → w1.heap[j]? = W.heap[j]?) := by
  obtain ⟨v1, w1, r1, n1, b1, g1, t1⟩ := app_te W base _ F o1 fv f (TeV.rd9 (by omega) hf) h1 hbase
  have o2' : w1.ownsRow base 29 9 (.slice (some ⟨b, 0, none⟩) q d) G.len G.cells := o2.kept g1 (.inr (by simp [Value.ownBlock]; omega))
  have hs1 := g1.size
  obtain ⟨v2, w2, r2, n2, b2, g2, t2⟩ := app_te w1 base _ G o2' gv g (TeV.rd9 (by omega) (hg.below (b1.mono hBb))) h2 (by omega)
  have e1 : ∀ k, v1.ownBlock = some k → k = a ∨ k = W.heap.size := by
    intro k hk
    rcases t1 with t | t
    · rw [t] at hk; simp [Value.ownBlock] at hk; omega
    · rw [t] at hk; injection hk with hk; omega
  have e2 : ∀ k, v2.ownBlock = some k → k = b ∨ k = w1.heap.size := by
    intro k hk
    rcases t2 with t | t
    · rw [t] at hk; simp [Value.ownBlock] at hk; omega
    · rw [t] at hk; injection hk with hk; omega
  refine ⟨v1, w1, v2, w2, r1, r2, n1.kept g2 ?_, n2, ?_, b1.trans b2, fun j hj hja => g1.block j hj (by simp [Value.ownBlock]; omega)⟩
  · by_cases hn : v1.ownBlock = none
    · exact .inl hn
    · right
      obtain ⟨k, hk⟩ : ∃ k, v1.ownBlock = some k := Option.ne_none_iff_exists'.1 hn
      rw [hk]
      have := e1 k hk
      simp [Value.ownBlock]
      omega
  · intro k hk hk2
    have h3 := e1 k hk
    have h4 := e2 k hk2
    have h5 := (n1.lt k hk).2
    omega
/-- Between two rounds: two stacks of terms, as long as each other. -/
def EsInv (all : Bool) (w : World) (R : Bool) (t5 t6 : Value) (wr : World) (s : Nat) : Prop :=
  ∃ F G : Te, F.size = s ∧ F.len = G.len ∧ F.size ≤ 1000000 ∧ G.size ≤ 1000000 ∧ F.same all G = R ∧ wr.ownsRow w.heap.size 29 9 t5 F.len F.cells ∧ wr.ownsRow w.heap.size 29 9 t6 G.len G.cells ∧
    (∀ k, t5.ownBlock = some k → t6.ownBlock ≠ some k) ∧ TeL w.heap.size wr F ∧ TeL w.heap.size wr G ∧ (F.all OkN ∧ G.all OkN) ∧ Below w.heap.size w wr
set_option maxHeartbeats 8000000 in
set_option maxRecDepth 100000 in
theorem ealike_any (all : Bool) (gf : Nat) (eg : ∀ args w, (callFunc gf args).run Try.prog w = .ok (.enter gf args) w) (w : World) (x y : Nd) (ps ps' : Te) (hps : TmL w.heap.size w (x, ps)) (hps' : TmL w.heap.size w (y, ps')) (hs : ps.size < 1000000) (hs' : ps'.size < 1000000)
    (hP : (one_ x ps).all OkN) (hP' : (one_ y ps').all OkN)
    (hF : ∀ (W : World) (t s : Tm), TmL W.heap.size W t → TmL W.heap.size W s → OkN t.1 → OkN s.1 → Calls Try.prog gf #[teVal t.1, teVal s.1] W fun e W' => e = .returned (.bool (ndE all t.1 s.1)) ∧ Below W.heap.size W W') :
    Calls Try.prog 31 #[teVal x, teVal y, .func (.func gf) #[] #[]] w fun e w' => e = .returned (.bool (ndE all x y && ps.same all ps')) ∧ Below w.heap.size w w' := by
  have HPS := Lib.hid hps
  have HPS' := Lib.hid hps'
  have HP := Lib.hid (And.intro hP hP')
  have HF := Lib.hid hF
  obtain ⟨R, hR⟩ : ∃ R, (ndE all x y && ps.same all ps') = R := ⟨_, rfl⟩
  rw [hR]
  have HRR := Lib.hid hR
  clear hR hps hps' hP hP' hF
  obtain ⟨W0, hW0⟩ : ∃ W0, (w.alloc (.cells (ndC x).toArray 29)).alloc (.cells (ndC y).toArray 29) = W0 := ⟨_, rfl⟩
  have hb0 : Below w.heap.size w W0 := by rw [← hW0]; exact ((Below.refl _ _).alloc (Nat.le_refl _) _).alloc (by simp) _
  have hx0 : W0.heap[w.heap.size]? = some (Obj.cells (ndC x).toArray 29) := by
    rw [← hW0]; exact (Below.heap_alloc _ _ _ (by simp)).trans (heap_alloc_new w _)
  have hy0 : W0.heap[w.heap.size + 1]? = some (Obj.cells (ndC y).toArray 29) := by
    rw [← hW0]
    have := heap_alloc_new (w.alloc (.cells (ndC x).toArray 29)) (.cells (ndC y).toArray 29)
    rwa [World.size_alloc] at this
  have nx : NdAt W0 w.heap.size 0 x := NdAt.of_block (T := 29) hx0
  have ny : NdAt W0 (w.heap.size + 1) 0 y := NdAt.of_block (T := 29) hy0
  have hsz0 : W0.heap.size = w.heap.size + 2 := by rw [← hW0]; simp
  have HB0 := Lib.hid hb0
  have HZ := Lib.hid hsz0
  have hl0 : w.heap.size < W0.heap.size := by omega
  have hl1 : w.heap.size + 1 < W0.heap.size := by omega
  obtain ⟨x0, x1, x2, x3, x4, ⟨xu1, xu2, xu3⟩, x6, ⟨xv1, xv2, xv3⟩, x8, x9⟩ := x
  obtain ⟨y0, y1, y2, y3, y4, ⟨yu1, yu2, yu3⟩, y6, ⟨yv1, yv2, yv3⟩, y8, y9⟩ := y
  obtain ⟨X, hX⟩ : ∃ X : Nd, ⟨x0, x1, x2, x3, x4, (xu1, xu2, xu3), x6, (xv1, xv2, xv3), x8, x9⟩ = X := ⟨_, rfl⟩
  obtain ⟨Y, hY⟩ : ∃ Y : Nd, ⟨y0, y1, y2, y3, y4, (yu1, yu2, yu3), y6, (yv1, yv2, yv3), y8, y9⟩ = Y := ⟨_, rfl⟩
  rw [hX] at HPS HP HRR
  rw [hY] at HPS' HP HRR
  have HXY0 := Lib.hid (And.intro hX hY)
  dsimp only [ndC, teVal, slv] at hW0 ⊢
  obtain ⟨k0, k1, k2, k3, k4, k5, k6, k7, k8⟩ := nx
  obtain ⟨l0, l1, l2, l3, l4, l5, l6, l7, l8⟩ := ny
  simp only [Nat.zero_add, slv] at k0 k1 k2 k3 k4 k5 k6 k7 k8 l0 l1 l2 l3 l4 l5 l6 l7 l8
  clear hb0 hx0 hy0 hsz0 hX hY
  go_enter Try.func31, Try.ntmps31
  go_upto_region 1 with fail
  go_cut [7, 8] (fun s5 s6 wx => ∃ g g' : Nat, s5 = .slice (some ⟨g, 0, none⟩) 1 1 ∧ s6 = .slice (some ⟨g', 0, none⟩) 1 1 ∧ g ≠ g' ∧ w.heap.size ≤ g ∧ w.heap.size ≤ g' ∧ wx.heap[g]? = some (Obj.cells #[.int .i64 x0, .string x1, .int .i64 x2, .int .i64 x3, .int .i64 x4, .slice xu1 xu2 xu3, .slice xv1 xv2 xv3, .int .i64 x8, .int .i64 x9] 29) ∧ wx.heap[g']? = some (Obj.cells #[.int .i64 y0, .string y1, .int .i64 y2, .int .i64 y3, .int .i64 y4, .slice yu1 yu2 yu3, .slice yv1 yv2 yv3, .int .i64 y8, .int .i64 y9] 29) ∧ Below W0.heap.size W0 wx)
  case first =>
    go_region
    all_goals go_wp2_with fail
    all_goals go_meet
    · obtain ⟨h1, h2, h3⟩ := two_new W0 (Obj.cells #[.int .i64 x0, .string x1, .int .i64 x2, .int .i64 x3, .int .i64 x4, .slice xu1 xu2 xu3, .slice xv1 xv2 xv3, .int .i64 x8, .int .i64 x9] 29) (Obj.cells #[.int .i64 y0, .string y1, .int .i64 y2, .int .i64 y3, .int .i64 y4, .slice yu1 yu2 yu3, .slice yv1 yv2 yv3, .int .i64 y8, .int .i64 y9] 29)
      exact ⟨_, _, rfl, rfl, by omega, by omega, by omega, h1, h2, h3⟩
    · obtain ⟨h1, h2, h3⟩ := two_new W0 (Obj.cells #[.int .i64 y0, .string y1, .int .i64 y2, .int .i64 y3, .int .i64 y4, .slice yu1 yu2 yu3, .slice yv1 yv2 yv3, .int .i64 y8, .int .i64 y9] 29) (Obj.cells #[.int .i64 x0, .string x1, .int .i64 x2, .int .i64 x3, .int .i64 x4, .slice xu1 xu2 xu3, .slice xv1 xv2 xv3, .int .i64 x8, .int .i64 x9] 29)
      exact ⟨_, _, rfl, rfl, by omega, by omega, by omega, h2, h1, h3⟩
  case rest =>
    obtain ⟨g, g', rfl, rfl, hne, hg1, hg2, hx, hy, hbc⟩ := hcut
    have hbw : Below w.heap.size w wc := HB0.out.trans (hbc.mono (by omega))
    have hinv : EsInv all w R (.slice (some ⟨g, 0, none⟩) 1 1) (.slice (some ⟨g', 0, none⟩) 1 1) wc (1 + ps.size) := by
      have hx' : wc.heap[g]? = some (Obj.cells (ndC X).toArray 29) := by rw [← HXY0.out.1]; exact hx
      have hy' : wc.heap[g']? = some (Obj.cells (ndC Y).toArray 29) := by rw [← HXY0.out.2]; exact hy
      refine ⟨.cons X ps .nil, .cons Y ps' .nil, by simp [Te.size], rfl, by simp only [Te.size]; omega, by simp only [Te.size]; omega, ?_, eown_one X hg1 hx' ps, eown_one Y hg2 hy' ps', ?_, ⟨HPS.out.below hbw, trivial⟩, ⟨HPS'.out.below hbw, trivial⟩, HP.out, hbw⟩
      · rw [← HRR.out]; simp [Te.same]
      · intro j h h2
        simp [Value.ownBlock] at h h2
        omega
    have HI := Lib.hid hinv
    clear hinv hbw hx hy hbc hne k0 k1 k2 k3 k4 k5 k6 k7 k8 l0 l1 l2 l3 l4 l5 l6 l7 l8
    go_wp2_with fail
    go_loopw [7, 8] (fun t5 t6 wr => ∃ s, EsInv all w R t5 t6 wr s) (fun t5 t6 wr => least (EsInv all w R t5 t6 wr))
    case atStart => exact ⟨_, HI.out⟩
    case round =>
      obtain ⟨s, hs⟩ := hrel
      obtain ⟨⟨F, G, hFs, hFG, hFN, hGN, hFR, hoF, hoG, hap, hTF, hTG, hPP, hb⟩, _⟩ := least_of hs
      have HM := Lib.hid hFs
      have HFR := Lib.hid hFR
      have HTF := Lib.hid hTF
      have HTG := Lib.hid hTG
      have HB := Lib.hid hb
      have HPP := Lib.hid hPP
      clear hFs hs hFR hTF hTG hb hPP
      rcases Nat.eq_zero_or_pos F.len with h0 | h0
      · have hr : R = true := by
          rw [← HFR.out]
          cases F with
          | nil =>
            cases G with
            | nil => rfl
            | cons => simp [Te.len] at hFG
          | cons => simp [Te.len] at h0
        obtain ⟨A, c, rfl, _, _⟩ := own_form hoF
        rw [h0]
        have HR := Lib.hid hr
        clear hr hoF hoG h0 hFG hap
        go_wp2_with fail
        go_ret
        exact ⟨ret_bool HR.out.symm, HB.out⟩
      · obtain ⟨q, hq⟩ : ∃ q, F.len = q + 1 := ⟨F.len - 1, by omega⟩
        obtain ⟨a, ca, rfl, ha1, ha2⟩ := own_shape hoF h0
        obtain ⟨a', cb, rfl, hb1, hb2⟩ := own_shape hoG (by omega)
        have hne : a ≠ a' := fun e => hap a rfl (by rw [e]; rfl)
        have hqm : q ≤ 1000000 := by have := F.len_le_size; omega
        obtain ⟨F', f, fps, hFe, hFl⟩ := F.last q hq
        obtain ⟨G', g, gps, hGe, hGl⟩ := G.last q (by omega)
        have hGq : G.len = q + 1 := by omega
        rw [hq] at hoF HM ⊢
        rw [hGq] at hoG HM ⊢
        rw [hFe] at hoF
        rw [hGe] at hoG
        obtain ⟨nF, ownF⟩ := elast_cells hFl hoF
        obtain ⟨nG, ownG⟩ := elast_cells hGl hoG
        have hTF := HTF.out
        have hTG := HTG.out
        have hFR := HFR.out
        have hPP := HPP.out
        rw [hFe] at hTF hFR hPP
        rw [hGe] at hTG hFR hPP
        rw [Te.same_app _ _ _ _ (hFl.trans hGl.symm)] at hFR
        obtain ⟨hTF1, hTF2⟩ := hTF.unapp
        obtain ⟨hTG1, hTG2⟩ := hTG.unapp
        obtain ⟨hpf1, hpf2, hpf3, _⟩ := Te.all_unapp hPP.1
        obtain ⟨hpg1, hpg2, hpg3, _⟩ := Te.all_unapp hPP.2
        have hsF : F'.size + (1 + fps.size) = F.size := by rw [hFe, Te.size_app]; simp [Te.size]
        have hsG : G'.size + (1 + gps.size) = G.size := by rw [hGe, Te.size_app]; simp [Te.size]
        have hlf := fps.len_le_size
        have hlg := gps.len_le_size
        have HPA := Lib.hid (show OkN f ∧ OkN g ∧ (F'.app fps).all OkN ∧ (G'.app gps).all OkN from ⟨hpf2, hpg2, Te.all_app hpf1 hpf3, Te.all_app hpg1 hpg3⟩)
        have OF := Lib.hid ownF
        have OG := Lib.hid ownG
        have HT1 := Lib.hid (And.intro hTF1 hTF2.1)
        have HT2 := Lib.hid (And.intro hTG1 hTG2.1)
        have HR2 := Lib.hid hFR
        have HFL := Lib.hid hFl
        have HGL := Lib.hid hGl
        have HSF := Lib.hid hsF
        have HSG := Lib.hid hsG
        have HNE := Lib.hid hne
        have hq1 : ((q + 1 : Nat) : Int) - 1 = (q : Int) := by omega
        have hw0 := HB.out.size
        generalize wr = wo at *
        clear hoF hoG hFe hGe hTF hTG hFR hTF1 hTF2 hTG1 hTG2 hsF hsG ownF ownG hFl hGl hq hGq hFG hap hne h0 hPP hpf1 hpf2 hpf3 hpg1 hpg2 hpg3
        have HR3 := Lib.hid (show ((F'.same all G') && (ndE all f g && fps.same all gps)) = R by rw [← HR2.out]; simp [Te.same])
        have hf2 : f.u.2.1 = fps.len := TeV.len_ (u := f.u) HT1.out.2.2
        have hg2 : g.u.2.1 = gps.len := TeV.len_ (u := g.u) HT2.out.2.2
        have CALL := Lib.hid (fun (W : World) (hbW : Below wo.heap.size wo W) => HF.out W (f, fps) (g, gps) (HT1.out.2.up (hbW.mono hw0) (Nat.le_trans hw0 hbW.size)) (HT2.out.2.up (hbW.mono hw0) (Nat.le_trans hw0 hbW.size)) HPA.out.1 HPA.out.2.1)
        obtain ⟨E, hE⟩ : ∃ E, ndE all f g = E := ⟨_, rfl⟩
        have HCALL := Lib.hid (show ∀ (W : World), Below wo.heap.size wo W → Calls Try.prog gf #[teVal f, teVal g] W fun e W' => e = .returned (.bool E) ∧ Below W.heap.size W W' from fun W hbW => by
          have := CALL.out W hbW
          rw [hE] at this
          exact this)
        rw [hE] at HR3
        obtain ⟨f0, f1, f2, f3, f4, ⟨fu1, fu2, fu3⟩, f6, ⟨fv1, fv2, fv3⟩, f8, f9⟩ := f
        obtain ⟨g0, g1, g2, g3, g4, ⟨gu1, gu2, gu3⟩, g6, ⟨gv1, gv2, gv3⟩, g8, g9⟩ := g
        obtain ⟨c0, c1, c2, c3, c4, c5, c6, c7, c8⟩ := nF
        obtain ⟨d0, d1, d2, d3, d4, d5, d6, d7, d8⟩ := nG
        dsimp only [slv, teVal] at c5 c6 d5 d6 hf2 hg2 HCALL
        subst hf2; subst hg2
        clear CALL hE HR2
        go_upto_region 4 with fail
        go_cut [10, 11] from 22 to 55 (fun s8 s9 wx => ∃ gx gy : Nat, s8 = .pointer (some ⟨gx, 0, none⟩) ∧ s9 = .pointer (some ⟨gy, 0, none⟩) ∧ wx.heap[gx]? = some (Obj.cells #[.int .i64 f0, .string f1, .int .i64 f2, .int .i64 f3, .int .i64 f4, .slice fu1 fu2 fu3, .slice fv1 fps.len fv3, .int .i64 f8, .int .i64 f9] 29) ∧ wx.heap[gy]? = some (Obj.cells #[.int .i64 g0, .string g1, .int .i64 g2, .int .i64 g3, .int .i64 g4, .slice gu1 gu2 gu3, .slice gv1 gps.len gv3, .int .i64 g8, .int .i64 g9] 29) ∧ wo.heap.size ≤ gx ∧ wo.heap.size ≤ gy ∧ Below wo.heap.size wo wx)
        case first =>
          go_region
          all_goals go_wp2_with fail
          all_goals go_meet
          · obtain ⟨h1, h2, h3⟩ := two_new wo (Obj.cells #[.int .i64 f0, .string f1, .int .i64 f2, .int .i64 f3, .int .i64 f4, .slice fu1 fu2 fu3, .slice fv1 fps.len fv3, .int .i64 f8, .int .i64 f9] 29) (Obj.cells #[.int .i64 g0, .string g1, .int .i64 g2, .int .i64 g3, .int .i64 g4, .slice gu1 gu2 gu3, .slice gv1 gps.len gv3, .int .i64 g8, .int .i64 g9] 29)
            exact ⟨_, _, rfl, rfl, h1, h2, by omega, by omega, h3⟩
          · obtain ⟨h1, h2, h3⟩ := two_new wo (Obj.cells #[.int .i64 g0, .string g1, .int .i64 g2, .int .i64 g3, .int .i64 g4, .slice gu1 gu2 gu3, .slice gv1 gps.len gv3, .int .i64 g8, .int .i64 g9] 29) (Obj.cells #[.int .i64 f0, .string f1, .int .i64 f2, .int .i64 f3, .int .i64 f4, .slice fu1 fu2 fu3, .slice fv1 fps.len fv3, .int .i64 f8, .int .i64 f9] 29)
            exact ⟨_, _, rfl, rfl, h2, h1, by omega, by omega, h3⟩
        case rest =>
          obtain ⟨gx, gy, rfl, rfl, hx, hy, hgx, hgy, hbc⟩ := hcut
          clear c0 c1 c2 c3 c4 c5 c6 c7 c8 d0 d1 d2 d3 d4 d5 d6 d7 d8
          obtain ⟨c0, c1, c2, c3, c4, c5, c6, c7, c8⟩ : NdAt wc gx 0 ⟨f0, f1, f2, f3, f4, (fu1, fu2, fu3), f6, (fv1, fps.len, fv3), f8, f9⟩ := NdAt.of_block (T := 29) hx
          obtain ⟨d0, d1, d2, d3, d4, d5, d6, d7, d8⟩ : NdAt wc gy 0 ⟨g0, g1, g2, g3, g4, (gu1, gu2, gu3), g6, (gv1, gps.len, gv3), g8, g9⟩ := NdAt.of_block (T := 29) hy
          simp only [Nat.zero_add, slv] at c0 c1 c2 c3 c4 c5 c6 c7 c8 d0 d1 d2 d3 d4 d5 d6 d7 d8
          have hcl := HCALL.out wc hbc
          have HC := Lib.hid hcl
          clear hcl
          have HXY := Lib.hid (And.intro hx hy)
          have HBC := Lib.hid hbc
          have HBw := Lib.hid (HB.out.trans (hbc.mono hw0))
          clear hx hy hbc
          by_cases m3 : fps.len = gps.len
          case neg =>
            have t3 : ((fps.len : Int) != (gps.len : Int)) = true := bne_iff_ne.2 (by omega)
            have HE := Lib.hid (show R = false by
              rw [← HR3.out]
              have : fps.same all gps = false := by
                cases hh : fps.same all gps
                · rfl
                · exact absurd (Te.same_len _ _ hh) m3
              simp [this])
            clear m3
            go_wp2_with fail
            go_ret
            exact ⟨ret_bool HE.out.symm, HBw.out⟩
          have t3 : ((fps.len : Int) != (gps.len : Int)) = false := by simp [m3]
          have HM3 := Lib.hid m3
          clear m3
          cases E
          case' false =>
            go_wp2_with (go_at_fn gf; refine HC.out.mono ?_; rintro e w5 ⟨rfl, hb5⟩)
            have HBf := Lib.hid (HBw.out.trans (hb5.mono HBw.out.size))
            clear hb5
            go_ret
            exact ⟨ret_bool (by rw [← HR3.out]; simp), HBf.out⟩
          go_wp2_with (go_at_fn gf; refine HC.out.mono ?_; rintro e w5 ⟨rfl, hb5⟩)
          have HXY5 := Lib.hid (And.intro ((hb5.block _ (Array.getElem?_eq_some_iff.1 HXY.out.1).1).trans HXY.out.1) ((hb5.block _ (Array.getElem?_eq_some_iff.1 HXY.out.2).1).trans HXY.out.2))
          have HBC5 := Lib.hid (show Below wo.heap.size wo w5 from HBC.out.trans (hb5.mono HBC.out.size))
          clear hb5 c0 c1 c2 c3 c4 c5 c6 c7 c8 d0 d1 d2 d3 d4 d5 d6 d7 d8 HC HBw HXY HBC
          have HBw := Lib.hid (HB.out.trans (HBC5.out.mono hw0))
          have e2 : w5.cell? ⟨gx, 6, none⟩ = some (.slice fv1 fps.len fv3) := cell_of_row w5 _ 6 _ _ (0, 0) HXY5.out.1
          have i2 : w5.cell? ⟨gy, 6, none⟩ = some (.slice gv1 gps.len gv3) := cell_of_row w5 _ 6 _ _ (0, 0) HXY5.out.2
          have hbc := HBC5.out
          have hsc := hbc.size
          have hxl : gx < w5.heap.size := (Array.getElem?_eq_some_iff.1 HXY5.out.1).1
          have hyl : gy < w5.heap.size := (Array.getElem?_eq_some_iff.1 HXY5.out.2).1
          have hbd : Below w.heap.size wo w5.drew := (hbc.mono hw0).drew
          have hlen := HSF.out
          have hlen2 := HSG.out
          have hl1 := F'.len_le_size
          have hl2 := G'.len_le_size
          have oF : w5.drew.ownsRow w.heap.size 29 9 (.slice (some ⟨a, 0, none⟩) q ca) F'.len F'.cells := (own_below OF.out hbc).drew
          have oG : w5.drew.ownsRow w.heap.size 29 9 (.slice (some ⟨a', 0, none⟩) q cb) G'.len G'.cells := (own_below OG.out hbc).drew
          have hsd : w.heap.size ≤ w5.drew.heap.size := Nat.le_trans hw0 hsc
          have hqa : q ≤ ca := by
            obtain ⟨_, _, hv, h1, _⟩ := own_form oF
            injection hv with _ h2 h3
            omega
          have hqb : q ≤ cb := by
            obtain ⟨_, _, hv, h1, _⟩ := own_form oG
            injection hv with _ h2 h3
            omega
          have hT1 := HT1.out.1.below hbd
          have hT2 := HT2.out.1.below hbd
          have hV1 : TeV w.heap.size w5.drew fps (.slice fv1 fps.len fv3) := HT1.out.2.2.below hbd
          have hV2 : TeV w.heap.size w5.drew gps (.slice gv1 gps.len gv3) := HT2.out.2.2.below hbd
          obtain ⟨va, wa1, vb, wa2, ra1, ra2, na1, na2, npa, nba, nka⟩ := etwo_apps w5.drew w.heap.size w.heap.size a a' q ca cb F' G' fps gps (.slice fv1 fps.len fv3) (.slice gv1 gps.len gv3) (Nat.le_refl _) hsd oF oG HNE.out hV1 hV2 (by omega) (by omega) (Nat.lt_of_lt_of_le ha2 hsc) (Nat.lt_of_lt_of_le hb2 hsc)
          obtain ⟨vc, wb1, vd, wb2, rb1, rb2, nb1, nb2, npb, nbb, nkb⟩ := etwo_apps w5.drew w.heap.size w.heap.size a' a q cb ca G' F' gps fps (.slice gv1 gps.len gv3) (.slice fv1 fps.len fv3) (Nat.le_refl _) hsd oG oF (fun e => HNE.out e.symm) hV2 hV1 (by omega) (by omega) (Nat.lt_of_lt_of_le hb2 hsc) (Nat.lt_of_lt_of_le ha2 hsc)
          have j2 : wa1.cell? ⟨gy, 6, none⟩ = some (.slice gv1 gps.len gv3) := cell_of_row wa1 _ 6 _ _ (0, 0) ((nka gy hyl (by omega)).trans HXY5.out.2)
          have k2 : wb1.cell? ⟨gx, 6, none⟩ = some (.slice fv1 fps.len fv3) := cell_of_row wb1 _ 6 _ _ (0, 0) ((nkb gx hxl (by omega)).trans HXY5.out.1)
          have hsame : (F'.app fps).same all (G'.app gps) = R := by
            rw [← HR3.out, Te.same_app _ _ _ _ (HFL.out.trans HGL.out.symm)]
            simp
          have hlenE : (F'.app fps).len = (G'.app gps).len := by
            rw [Te.len_app, Te.len_app, HFL.out, HGL.out, HM3.out]
          have FA := Lib.hid (show EsInv all w R va vb wa2 (F'.app fps).size from ⟨F'.app fps, G'.app gps, rfl, hlenE, by rw [Te.size_app]; omega, by rw [Te.size_app]; omega, hsame, na1, na2, npa, (hT1.below nba).app ((hV1.below nba).list), (hT2.below nba).app ((hV2.below nba).list), HPA.out.2.2, HB.out.trans (hbd.trans nba)⟩)
          have FB := Lib.hid (show EsInv all w R vd vc wb2 (F'.app fps).size from ⟨F'.app fps, G'.app gps, rfl, hlenE, by rw [Te.size_app]; omega, by rw [Te.size_app]; omega, hsame, nb2, nb1, fun k h1 h2 => npb k h2 h1, (hT1.below nbb).app ((hV1.below nbb).list), (hT2.below nbb).app ((hV2.below nbb).list), HPA.out.2.2, HB.out.trans (hbd.trans nbb)⟩)
          have HSZ := Lib.hid (show (F'.app fps).size < F.size by rw [Te.size_app]; omega)
          have hz0 : (0 : Int) ≤ (q : Int) := by omega
          have hza : decide ((q : Int) ≤ (ca : Int)) = true := decide_eq_true (by omega)
          have hzb : decide ((q : Int) ≤ (cb : Int)) = true := decide_eq_true (by omega)
          clear hbc hlen hlen2 oF oG na1 na2 npa nba nka nb1 nb2 npb nbb nkb hsame hlenE hbd hsc hsd hT1 hT2 hV1 hV2
          go_region
          all_goals go_wp2_with fail
          all_goals go_roundw
          case rel => first | exact ⟨_, FA.out⟩ | exact ⟨_, FB.out⟩
          case measure => exact Nat.lt_of_le_of_lt (least_of FA.out).2 (Nat.lt_of_lt_of_le HSZ.out (Nat.le_of_eq HM.out))
end Go.Proofs.Ytglmhdlkhnlkiaa
/- term.Same, term.Equal; the answer's Same. -/
namespace Go.Proofs.Ytglmhdlkhnlkiaa
open Go.RowKit Go.Shelf
attribute [local go_sem] Oper.semAt_some

set_option maxHeartbeats 2000000 in
set_option maxRecDepth 100000 in
theorem rsamee_any (x y : Nd) (f g : Te) (w : World) (hs : f.size ≤ 1000000) (hs' : g.size ≤ 1000000) (h : TmL w.heap.size w (x, f)) (h' : TmL w.heap.size w (y, g))
    (ht : x.ty.size ≤ 1000000) (ht' : y.ty.size ≤ 1000000) (ha : f.all (fun x => x.ty.size ≤ 1000000)) (ha' : g.all (fun x => x.ty.size ≤ 1000000)) :
    Calls Try.prog 16 #[teVal x, teVal y] w fun e w' => e = .returned (.bool (ndE false x y && f.same false g)) ∧ Below w.heap.size w w' := by
  obtain ⟨w1, hw1⟩ : ∃ w1, (w.alloc (Obj.cells (ndC x).toArray 29)).alloc (Obj.cells (ndC y).toArray 29) = w1 := ⟨_, rfl⟩
  have hb1 : Below w.heap.size w w1 := by rw [← hw1]; exact ((Below.refl _ _).alloc (Nat.le_refl _) _).alloc (by simp) _
  have hc := rtesame_any false (f.size + 1) f g x y w1 (by omega) hs hs' (h.up hb1 hb1.size) (h'.up hb1 hb1.size) ht ht' ha ha'
  obtain ⟨R, hR⟩ : ∃ R, (ndE false x y && f.same false g) = R := ⟨_, rfl⟩
  rw [hR] at hc ⊢
  rw [← hw1] at hc
  have HW := Lib.hid (And.intro hw1 hb1)
  obtain ⟨x0, x1, x2, x3, x4, ⟨xu1, xu2, xu3⟩, x6, ⟨xv1, xv2, xv3⟩, x8, x9⟩ := x
  obtain ⟨y0, y1, y2, y3, y4, ⟨yu1, yu2, yu3⟩, y6, ⟨yv1, yv2, yv3⟩, y8, y9⟩ := y
  dsimp only [teVal, slv, ndC] at hc HW ⊢
  have HC := Lib.hid hc
  clear hc h h' ht ht' ha ha' hR hw1 hb1
  go_enter Try.func16, Try.ntmps16
  go_wp2_with fail
  refine HC.out.mono ?_
  rintro e w2 ⟨rfl, hb2⟩
  rw [HW.out.1] at hb2
  have HB := Lib.hid (HW.out.2.trans (hb2.mono HW.out.2.size))
  clear hb2
  go_wp2_with fail
  go_ret
  exact ⟨rfl, HB.out⟩
set_option maxHeartbeats 2000000 in
set_option maxRecDepth 100000 in
theorem esame_any (x y : Nd) (f g : Te) (w : World) (hs : f.size < 1000000) (hs' : g.size < 1000000) (h : TmL w.heap.size w (x, f)) (h' : TmL w.heap.size w (y, g)) (hP : (one_ x f).all OkN) (hP' : (one_ y g).all OkN) :
    Calls Try.prog 15 #[teVal x, teVal y] w fun e w' => e = .returned (.bool (ndE false x y && f.same false g)) ∧ Below w.heap.size w w' := by
  obtain ⟨w1, hw1⟩ : ∃ w1, (w.alloc (Obj.cells (ndC x).toArray 29)).alloc (Obj.cells (ndC y).toArray 29) = w1 := ⟨_, rfl⟩
  have hb1 : Below w.heap.size w w1 := by rw [← hw1]; exact ((Below.refl _ _).alloc (Nat.le_refl _) _).alloc (by simp) _
  have hc := ealike_any false 32 (enters_of Try.func32 (by kernel_rfl) rfl) w1 x y f g (h.up hb1 hb1.size) (h'.up hb1 hb1.size) hs hs' hP hP' (fun W t s ht hs2 hp hq => sameAlone_any t.1 s.1 t.2 s.2 W ht hs2 (Nat.lt_of_le_of_lt hp.2 (by omega)) (Nat.lt_of_le_of_lt hq.2 (by omega)))
  obtain ⟨R, hR⟩ : ∃ R, (ndE false x y && f.same false g) = R := ⟨_, rfl⟩
  rw [hR] at hc ⊢
  rw [← hw1] at hc
  have HW := Lib.hid (And.intro hw1 hb1)
  obtain ⟨x0, x1, x2, x3, x4, ⟨xu1, xu2, xu3⟩, x6, ⟨xv1, xv2, xv3⟩, x8, x9⟩ := x
  obtain ⟨y0, y1, y2, y3, y4, ⟨yu1, yu2, yu3⟩, y6, ⟨yv1, yv2, yv3⟩, y8, y9⟩ := y
  dsimp only [teVal, slv, ndC] at hc HW ⊢
  have HC := Lib.hid hc
  clear hc h h' hP hP' hR hw1 hb1
  go_enter Try.func15, Try.ntmps15
  go_wp2_with fail
  refine HC.out.mono ?_
  rintro e w2 ⟨rfl, hb2⟩
  rw [HW.out.1] at hb2
  have HB := Lib.hid (HW.out.2.trans (hb2.mono HW.out.2.size))
  clear hb2
  go_wp2_with fail
  go_ret
  exact ⟨rfl, HB.out⟩
set_option maxHeartbeats 2000000 in
set_option maxRecDepth 100000 in
theorem eequal_any (x y : Nd) (f g : Te) (w : World) (hs : f.size < 1000000) (hs' : g.size < 1000000) (h : TmL w.heap.size w (x, f)) (h' : TmL w.heap.size w (y, g)) (hP : (one_ x f).all OkN) (hP' : (one_ y g).all OkN) :
    Calls Try.prog 17 #[teVal x, teVal y] w fun e w' => e = .returned (.bool (ndE true x y && f.same true g)) ∧ Below w.heap.size w w' := by
  obtain ⟨w1, hw1⟩ : ∃ w1, (w.alloc (Obj.cells (ndC x).toArray 29)).alloc (Obj.cells (ndC y).toArray 29) = w1 := ⟨_, rfl⟩
  have hb1 : Below w.heap.size w w1 := by rw [← hw1]; exact ((Below.refl _ _).alloc (Nat.le_refl _) _).alloc (by simp) _
  have hc := ealike_any true 34 (enters_of Try.func34 (by kernel_rfl) rfl) w1 x y f g (h.up hb1 hb1.size) (h'.up hb1 hb1.size) hs hs' hP hP' (fun W t s ht hs2 hp hq => equal1_any t.1 s.1 t.2 s.2 W ht hs2 (Nat.lt_of_le_of_lt hp.2 (by omega)) (Nat.lt_of_le_of_lt hq.2 (by omega)))
  obtain ⟨R, hR⟩ : ∃ R, (ndE true x y && f.same true g) = R := ⟨_, rfl⟩
  rw [hR] at hc ⊢
  rw [← hw1] at hc
  have HW := Lib.hid (And.intro hw1 hb1)
  obtain ⟨x0, x1, x2, x3, x4, ⟨xu1, xu2, xu3⟩, x6, ⟨xv1, xv2, xv3⟩, x8, x9⟩ := x
  obtain ⟨y0, y1, y2, y3, y4, ⟨yu1, yu2, yu3⟩, y6, ⟨yv1, yv2, yv3⟩, y8, y9⟩ := y
  dsimp only [teVal, slv, ndC] at hc HW ⊢
  have HC := Lib.hid hc
  clear hc h h' hP hP' hR hw1 hb1
  go_enter Try.func17, Try.ntmps17
  go_wp2_with fail
  refine HC.out.mono ?_
  rintro e w2 ⟨rfl, hb2⟩
  rw [HW.out.1] at hb2
  have HB := Lib.hid (HW.out.2.trans (hb2.mono HW.out.2.size))
  clear hb2
  go_wp2_with fail
  go_ret
  exact ⟨rfl, HB.out⟩
end Go.Proofs.Ytglmhdlkhnlkiaa
