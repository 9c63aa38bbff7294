/- Texts of one proof, one behind the other. -/
import Derived.Test.YtbnpmeaaaecciaaGreatMgUnifyClasses5
import Derived.Test.YtbnpmeaaaecciaaGreatMgUnifyClasses4
import Derived.Test.YtbnpmeaaaecciaaGreatMgUnifyClasses3
import Derived.Deep.DeepCutAuto
import Derived.Test.YtbnpmeaaaecciaaGreatMgUnifyClasses1
/- The answer's Right. -/
namespace Go.Proofs.YtbnpmeaaaecciaaGreat
open Go.RowKit

theorem Fo.pre_split (f : Fo) (j : Nat) (hj : j < f.len) : f.pre = (f.take j).pre ++ (((f.at_ j).1, (f.at_ j).2.1, (f.at_ j).2.2.1) :: (f.at_ j).2.2.2.pre) ++ (f.drop (j + 1)).pre := by
  induction f generalizing j with
  | nil => simp [Fo.len] at hj
  | cons k n v ps r _ ih =>
    cases j with
    | zero => simp [Fo.at_, Fo.pre, Fo.take, Fo.drop]
    | succ j =>
      have := ih j (by simp [Fo.len] at hj; omega)
      simp only [Fo.pre, Fo.take, Fo.at_, Fo.drop]
      rw [this]
      simp
theorem Fo.pre_take (f : Fo) (j : Nat) (hj : j < f.len) : (f.take (j + 1)).pre = (f.take j).pre ++ (((f.at_ j).1, (f.at_ j).2.1, (f.at_ j).2.2.1) :: (f.at_ j).2.2.2.pre) := by
  rw [Fo.take_step f j hj, Fo.pre_app]
  simp [Fo.pre]
theorem allAlone_appJ (a b : List Tr) : allAlone (a ++ b) = (allAlone a && allAlone b) := by simp [allAlone]
theorem allAlone_cons (x : Tr) (b : List Tr) : allAlone (x :: b) = (alone x.1 x.2.1 x.2.2.2.1 && allAlone b) := by simp [allAlone]
theorem TyV.len {B : Nat} {w : World} {f : Fo} {u : Sl} (h : TyV B w f (slv u)) : u.2.1 = f.len := by
  obtain ⟨A, c, hv⟩ := h.slice
  unfold slv at hv
  injection hv
set_option maxHeartbeats 2000000 in
set_option maxRecDepth 100000 in
theorem rright_any (m : Nat) : ∀ (f : Fo) (k n : Int) (v : Value) (w : World), f.size < m → f.size ≤ 1000000 → TyV w.heap.size w f v →
    Calls Tryz.prog 7 #[tyVal k n v] w fun e w' => e = .returned (.bool (alone k n f.len && allAlone f.pre)) ∧ Below w.heap.size w w' := by
  induction m with
  | zero => intro f k n v w h; omega
  | succ m ih =>
    intro f k n v w hm hs h
    obtain ⟨A, c, rfl⟩ := h.slice
    have H := Lib.hid h
    have IH := Lib.hid ih
    have hll := f.len_le_size
    clear h ih
    unfold tyVal
    go_enter Tryz.func7, Tryz.ntmps7
    obtain ⟨q, hq⟩ : ∃ q, f.len = q := ⟨_, rfl⟩
    rw [hq] at hll ⊢
    have HB0 := Lib.hid (show ∀ (cs : Array Value) (t : TypeId), Below w.heap.size w (w.alloc (Obj.cells cs t)) from fun cs t => (Below.refl _ w).alloc (Nat.le_refl _) _)
    have HQ := Lib.hid hq
    clear hq
    have done : alone k n q = false → ∀ (cs : Array Value) (t : TypeId), (Ending.returned (.bool false) = .returned (.bool (alone k n q && allAlone f.pre)) ∧ Below w.heap.size w (w.alloc (Obj.cells cs t))) := by
      intro h1 cs t
      rw [h1]
      exact ⟨rfl, HB0.out _ _⟩
    have DONE := Lib.hid done
    clear done
    by_cases h1 : k = 1
    case' pos =>
      subst h1
      by_cases h2 : n < 0
      · have f2 : decide (n < 0) = true := decide_eq_true h2
        go_wp2_with fail
        go_ret
        exact DONE.out (by unfold alone; rw [if_pos rfl, decide_eq_false (by omega : ¬ 0 ≤ n)]; rfl) _ _
      have f2 : decide (n < 0) = false := decide_eq_false h2
      by_cases h3 : 1073741824 ≤ n
      · have f3 : decide (1073741824 ≤ n) = true := decide_eq_true h3
        go_wp2_with fail
        go_ret
        exact DONE.out (by unfold alone; rw [if_pos rfl, decide_eq_false (by omega : ¬ n < 1073741824)]; simp) _ _
      have f3 : decide (1073741824 ≤ n) = false := decide_eq_false h3
      by_cases h4 : 0 < q
      · have f5 : decide (0 < q) = true := decide_eq_true h4
        go_wp2_with fail
        go_ret
        exact DONE.out (by unfold alone; rw [if_pos rfl, beq_eq_false_iff_ne.2 (by omega : (q : Int) ≠ 0)]; simp) _ _
      have hal : alone 1 n q = true := by
        obtain rfl : q = 0 := by omega
        unfold alone
        rw [if_pos rfl, decide_eq_true (by omega : 0 ≤ n), decide_eq_true (by omega : n < 1073741824)]
        rfl
      have HA := Lib.hid hal
      have f5 : decide (0 < q) = false := decide_eq_false h4
      clear hal h2 h3 h4
      go_wp2_with fail
    case' neg =>
      by_cases h2 : n = 0
      case neg =>
        have f1 : (k == 1) = false := beq_eq_false_iff_ne.2 h1
        have f2 : (n != 0) = true := bne_iff_ne.2 h2
        go_wp2_with fail
        go_ret
        refine DONE.out ?_ _ _
        unfold alone
        simp [h1, h2]
      subst h2
      by_cases h2 : k = 2
      case' pos =>
        subst h2
        by_cases h4 : 0 < q
        · have f5 : decide (0 < q) = true := decide_eq_true h4
          go_wp2_with fail
          go_ret
          exact DONE.out (by unfold alone; simp; omega) _ _
        have hal : alone 2 0 q = true := by obtain rfl : q = 0 := by omega
                                            rfl
        have HA := Lib.hid hal
        have f5 : decide (0 < q) = false := decide_eq_false h4
        clear hal h4 h1
        go_wp2_with fail
      case' neg =>
        by_cases h3 : k = 3
        case' pos =>
          subst h3
          by_cases h4 : 0 < q
          · have f5 : decide (0 < q) = true := decide_eq_true h4
            go_wp2_with fail
            go_ret
            exact DONE.out (by unfold alone; simp; omega) _ _
          have hal : alone 3 0 q = true := by obtain rfl : q = 0 := by omega
                                              rfl
          have HA := Lib.hid hal
          have f5 : decide (0 < q) = false := decide_eq_false h4
          clear hal h4 h1 h2
          go_wp2_with fail
        case' neg =>
          by_cases h4 : k = 4
          case' pos =>
            subst h4
            by_cases h5 : q = 2
            case neg =>
              have f5 : ((q : Int) != 2) = true := bne_iff_ne.2 (by omega)
              go_wp2_with fail
              go_ret
              exact DONE.out (by unfold alone; simp; omega) _ _
            have f5 : ((q : Int) != 2) = false := by rw [h5]; rfl
            have hal : alone 4 0 q = true := by rw [h5]; rfl
            have HA := Lib.hid hal
            clear hal h5 h1 h2 h3
            go_wp2_with fail
          case' neg =>
            by_cases h5 : k = 5
            case' pos =>
              subst h5
              by_cases h6 : q < 2
              · have f5 : decide (q < 2) = true := decide_eq_true h6
                go_wp2_with fail
                go_ret
                exact DONE.out (by unfold alone; simp; omega) _ _
              have f5 : decide (q < 2) = false := decide_eq_false h6
              by_cases h7 : 8 < q
              · have f6 : decide (8 < q) = true := decide_eq_true h7
                go_wp2_with fail
                go_ret
                exact DONE.out (by unfold alone; simp; omega) _ _
              have f6 : decide (8 < q) = false := decide_eq_false h7
              have hal : alone 5 0 q = true := by unfold alone; simp; omega
              have HA := Lib.hid hal
              clear hal h1 h2 h3 h4
              go_wp2_with fail
              all_goals try (exfalso; omega)
            case' neg =>
              have f1 : (k == 1) = false := beq_eq_false_iff_ne.2 h1
              have f2 : (k == 2) = false := beq_eq_false_iff_ne.2 h2
              have f3 : (k == 3) = false := beq_eq_false_iff_ne.2 h3
              have f4 : (k == 4) = false := beq_eq_false_iff_ne.2 h4
              have f5 : (k == 5) = false := beq_eq_false_iff_ne.2 h5
              by_cases h6 : k < 1
              · have f6 : decide (k < 1) = true := decide_eq_true h6
                go_wp2_with fail
                go_ret
                exact DONE.out (by unfold alone; simp [h1, h2, h3, h4, h5]) _ _
              · have f6 : decide (k < 1) = false := decide_eq_false h6
                have f7 : decide (5 < k) = true := decide_eq_true (by omega)
                go_wp2_with fail
                go_ret
                exact DONE.out (by unfold alone; simp [h1, h2, h3, h4, h5]) _ _
    all_goals
      go_loopw [4] (fun t4 wr => ∃ j : Nat, j ≤ q ∧ t4 = .int .i64 j ∧ allAlone (f.take j).pre = true ∧ wr.cell? ⟨w.heap.size, 2, none⟩ = some (.slice A q c) ∧ Below w.heap.size w wr ∧ w.heap.size + 1 ≤ wr.heap.size) (fun t _ => q - (intOf t).toNat)
      case atStart => exact ⟨0, Nat.zero_le _, rfl, by simp [Fo.take_zero, Fo.pre, allAlone], by go_simp, HB0.out _ _, by simp⟩
      case round =>
        obtain ⟨j, hj, rfl, hja, e2, hb, hz⟩ := hrel
        have HB := Lib.hid hb
        have HJA := Lib.hid hja
        clear hja hb
        by_cases hjl : j < q
        · have hjf : j < f.len := by rw [HQ.out]; exact hjl
          obtain ⟨b, off, cap, hv, _, _, hlt, hC⟩ := H.out.form (by omega)
          injection hv with hA _ hcc
          subst hA; subst hcc
          obtain ⟨d0, d1, d2, hch⟩ := tyC_at hC j hjf
          have c0 := (HB.out.cell (p := ⟨b, off + j * 3, none⟩) hlt).trans d0
          have c1 := (HB.out.cell (p := ⟨b, off + j * 3 + 1, none⟩) hlt).trans d1
          have c2 := (HB.out.cell (p := ⟨b, off + j * 3 + 2, none⟩) hlt).trans d2
          have hch' : TyV wr.heap.size wr (f.at_ j).2.2.2 (slv (f.at_ j).2.2.1) := (hch.keep HB.out.size fun b off hb' => HB.out.cell (p := ⟨b, off, none⟩) hb')
          have hsz := f.at_size j hjf
          have hsp := f.pre_split j hjf
          have htk := f.pre_take j hjf
          have hpl := hch.len
          have hrec := IH.out (f.at_ j).2.2.2 (f.at_ j).1 (f.at_ j).2.1 (slv (f.at_ j).2.2.1) wr (by omega) (by omega) hch'
          clear d0 d1 d2 hC hch hch' hsz
          unfold tyVal at hrec
          generalize f.at_ j = p at *
          obtain ⟨pk, pn, pv, pf⟩ := p
          dsimp only at hsp htk hpl hrec c0 c1 c2
          obtain ⟨x, hx⟩ : ∃ x, (alone pk pn pf.len && allAlone pf.pre) = x := ⟨_, rfl⟩
          rw [hx] at hrec
          have hxa : allAlone ((pk, pn, pv) :: pf.pre) = x := by rw [allAlone_cons, ← hx, hpl]
          have HREC := Lib.hid hrec
          have HSP := Lib.hid (show allAlone f.pre = (x && allAlone (f.drop (j + 1)).pre) by rw [hsp, allAlone_appJ, allAlone_appJ, HJA.out, hxa]; rfl)
          have HTK := Lib.hid (show allAlone (f.take (j + 1)).pre = x by rw [htk, allAlone_appJ, HJA.out, hxa]; rfl)
          clear hrec hsp htk hpl hx hxa hjf
          go_wp2_with fail
          refine HREC.out.mono ?_
          rintro e w2 ⟨rfl, hb3⟩
          have e2' := (hb3.cell (p := ⟨w.heap.size, 2, none⟩) (by simp only; omega)).trans e2
          have HB3 := Lib.hid hb3
          clear hb3
          cases x
          · go_wp2_with fail
            go_ret
            exact ⟨ret_bool (by rw [HA.out, HSP.out]; rfl), HB.out.trans (HB3.out.mono (by omega))⟩
          · go_wp2_with fail
            go_roundw
            case rel => exact ⟨j + 1, by omega, by go_num, HTK.out, e2', HB.out.trans (HB3.out.mono (by omega)), Nat.le_trans hz HB3.out.size⟩
            case measure => simp [intOf]; omega
        · obtain rfl : j = q := by omega
          have HT : Hid (f.take j = f) := Lib.hid (by rw [← HQ.out]; exact f.take_len)
          go_wp2_with fail
          go_ret
          exact ⟨ret_bool (by rw [HA.out, ← HT.out, HJA.out]; rfl), HB.out⟩
end Go.Proofs.YtbnpmeaaaecciaaGreat
/- types.Same. -/
namespace Go.Proofs.YtbnpmeaaaecciaaGreat
open Go.RowKit Go.Shelf
attribute [local go_sem ↓] builtin_app
namespace Fo
theorem same_app (f g f2 g2 : Fo) (h : f.len = g.len) : (f.app f2).same (g.app g2) = (f.same g && f2.same g2) := by
  induction f generalizing g with
  | nil =>
    cases g with
    | nil => simp [app, same]
    | cons => simp [len] at h
  | cons k n u ps r _ ih =>
    cases g with
    | nil => simp [len] at h
    | cons k' n' u' ps' r' =>
      have := ih r' (by simpa [len] using h)
      simp [app, same, this, Bool.and_assoc]
theorem last (F : Fo) (q : Nat) (h : F.len = q + 1) : ∃ (F' : Fo) (k n : Int) (u : Sl) (ps : Fo), F = F'.app (.cons k n u ps .nil) ∧ F'.len = q := by
  induction F generalizing q with
  | nil => simp [len] at h
  | cons k n u ps r _ ih =>
    cases r with
    | nil => exact ⟨.nil, k, n, u, ps, rfl, by simp [len] at h ⊢; omega⟩
    | cons k' n' u' ps' r' =>
      cases q with
      | zero => simp [len] at h
      | succ q =>
        obtain ⟨F', a, b, c, d, h1, h2⟩ := ih q (by simp [len] at h ⊢; omega)
        exact ⟨.cons k n u ps F', a, b, c, d, by rw [h1]; rfl, by simp [len, h2]⟩
end Fo
theorem TyL.unapp {B : Nat} {w : World} {f g : Fo} (h : TyL B w (f.app g)) : TyL B w f ∧ TyL B w g := by
  induction f with
  | nil => exact ⟨trivial, h⟩
  | cons _ _ _ _ r _ ih => exact ⟨⟨h.1, (ih h.2).1⟩, (ih h.2).2⟩
theorem top_len3 (f : Fo) : (f.top.flatMap trC).length = f.len * 3 := by rw [trC_len, Fo.top_len]
/-- The last one's cells. -/
theorem last_cells {w : World} {base a c q : Nat} {F : Fo} {k n : Int} {u : Sl} {ps : Fo} (hq : F.len = q) (h : w.ownsRow base 30 3 (.slice (some ⟨a, 0, none⟩) (q + 1) c) (q + 1) ((F.app (.cons k n u ps .nil)).top.flatMap trC)) :
    w.cell? ⟨a, q * 3, none⟩ = some (.int .i64 k) ∧ w.cell? ⟨a, q * 3 + 1, none⟩ = some (.int .i64 n) ∧ w.cell? ⟨a, q * 3 + 2, none⟩ = some (slv u) ∧
      w.ownsRow base 30 3 (.slice (some ⟨a, 0, none⟩) q c) F.len (F.top.flatMap trC) := by
  have hsl := top_len3 F
  rw [Fo.top_app, List.flatMap_append] at h
  rw [hq] at hsl ⊢
  refine ⟨?_, ?_, ?_, own_cut h q (by omega) hsl⟩
  · rw [h.cellAt _ (by omega), List.getElem?_append_right (by omega), hsl]; simp [trC, Fo.top]
  · rw [h.cellAt _ (by omega), List.getElem?_append_right (by omega), hsl]; simp [trC, Fo.top]
  · rw [h.cellAt _ (by omega), List.getElem?_append_right (by omega), hsl]; simp [trC, Fo.top]
/-- An append of types. -/
theorem app_ty (W : World) (base : Nat) (v : Value) (F : Fo) (own : W.ownsRow base 30 3 v F.len (F.top.flatMap trC)) (vx : Value) (G : Fo) (rd : Rd W 3 vx G.len (G.top.flatMap trC)) (hl : F.len + G.len ≤ 100000000) (hbase : base ≤ W.heap.size) :
    ∃ v' W', (app_ #[28, 28] 28 #[v, vx]).run Tryz.prog W = .ok v' W' ∧ W'.ownsRow base 30 3 v' (F.app G).len ((F.app G).top.flatMap trC) ∧ Below base W W' ∧ W.grownBy W' v.ownBlock ∧ (v'.ownBlock = v.ownBlock ∨ v'.ownBlock = some W.heap.size) := by
  obtain ⟨i0, hi0, hz0, hz1, hz2⟩ := info_parts tyInfo
  obtain ⟨v1, w1, hrun, hown, hg, hat⟩ := run_append_rd (P := Tryz.prog) W base 28 28 30 i0 _ 3 40 Tryz.underlying28 hi0 hz0 hz1 hz2 rfl (by omega) v _ _ own vx _ _ rd (trC_one _) (by unfold maxLen; omega) (by omega) hbase
  refine ⟨v1, w1, hrun, ?_, (Below.refl _ _).grown hg hbase (fun k e => (own.lt k e).1), hg, hat⟩
  rw [Fo.len_app, Fo.top_app, List.flatMap_append]
  exact hown
theorem two_new (w : World) (a b : Obj) : ((w.alloc a).alloc b).drew.heap[w.heap.size]? = some a ∧ ((w.alloc a).alloc b).drew.heap[w.heap.size + 1]? = some b ∧ Below w.heap.size w ((w.alloc a).alloc b).drew := by
  refine ⟨(Below.heap_alloc _ _ _ (by simp)).trans (heap_alloc_new w _), ?_, (((Below.refl _ _).alloc (Nat.le_refl _) _).alloc (by simp) _).drew⟩
  have := heap_alloc_new (w.alloc a) b
  rwa [World.size_alloc] at this
/-- A block that holds one type is a row of one. -/
theorem own_one {w : World} {H g : Nat} {k n : Int} {u : Sl} (hH : H ≤ g) (h : w.heap[g]? = some (Obj.cells #[.int .i64 k, .int .i64 n, slv u] 30)) (ps : Fo) : w.ownsRow H 30 3 (.slice (some ⟨g, 0, none⟩) 1 1) (Fo.cons k n u ps .nil).len ((Fo.cons k n u ps .nil).top.flatMap trC) :=
  ⟨rfl, .inr ⟨g, 1, _, rfl, hH, h, Nat.le_refl _, by unfold maxLen; omega, by simp, by simp [Fo.len, Fo.top, trC]⟩⟩
/-- Two appends, one behind the other, onto two rows. -/
theorem two_apps (W : World) (B base a b q c d : Nat) (F G f g : Fo) (fv gv : Value) (hBb : B ≤ base) (hbase : base ≤ W.heap.size)
    (o1 : W.ownsRow base 30 3 (.slice (some ⟨a, 0, none⟩) q c) F.len (F.top.flatMap trC)) (o2 : W.ownsRow base 30 3 (.slice (some ⟨b, 0, none⟩) q d) G.len (G.top.flatMap trC)) (hne : a ≠ b)
    (hf : TyV B W f fv) (hg : TyV B W g gv) (h1 : F.len + f.len ≤ 100000000) (h2 : G.len + g.len ≤ 100000000) (ha : a < W.heap.size) (hb : b < W.heap.size) :
    ∃ v1 w1 v2 w2, (app_ #[28, 28] 28 #[.slice (some ⟨a, 0, none⟩) q c, fv]).run Tryz.prog W = .ok v1 w1 ∧ (app_ #[28, 28] 28 #[.slice (some ⟨b, 0, none⟩) q d, gv]).run Tryz.prog w1 = .ok v2 w2 ∧
      w2.ownsRow base 30 3 v1 (F.app f).len ((F.app f).top.flatMap trC) ∧ w2.ownsRow base 30 3 v2 (G.app g).len ((G.app g).top.flatMap trC) ∧
      (∀ k, v1.ownBlock = some k → v2.ownBlock ≠ some k) ∧ Below base W w2 ∧ (∀ j, j < W.heap.size → j ≠ a → w1.heap[j]? = W.heap[j]?) := by
  obtain ⟨v1, w1, r1, n1, b1, g1, t1⟩ := app_ty W base _ F o1 fv f (TyV.rd3 (by omega) hf) h1 hbase
  have o2' : w1.ownsRow base 30 3 (.slice (some ⟨b, 0, none⟩) q d) G.len (G.top.flatMap trC) := o2.kept g1 (.inr (by simp [Value.ownBlock]; omega))
  have hs1 := g1.size
  obtain ⟨v2, w2, r2, n2, b2, g2, t2⟩ := app_ty w1 base _ G o2' gv g (TyV.rd3 (by omega) (hg.below (b1.mono hBb))) h2 (by omega)
  have e1 : ∀ k, v1.ownBlock = some k → k = a ∨ k = W.heap.size := by
    intro k hk
    rcases t1 with t | t
    · rw [t] at hk; simp [Value.ownBlock] at hk; omega
    · rw [t] at hk; injection hk with hk; omega
  have e2 : ∀ k, v2.ownBlock = some k → k = b ∨ k = w1.heap.size := by
    intro k hk
    rcases t2 with t | t
    · rw [t] at hk; simp [Value.ownBlock] at hk; omega
    · rw [t] at hk; injection hk with hk; omega
  refine ⟨v1, w1, v2, w2, r1, r2, n1.kept g2 ?_, n2, ?_, b1.trans b2, fun j hj hja => g1.block j hj (by simp [Value.ownBlock]; omega)⟩
  · by_cases hn : v1.ownBlock = none
    · exact .inl hn
    · right
      obtain ⟨k, hk⟩ : ∃ k, v1.ownBlock = some k := Option.ne_none_iff_exists'.1 hn
      rw [hk]
      have := e1 k hk
      simp [Value.ownBlock]
      omega
  · intro k hk hk2
    have h3 := e1 k hk
    have h4 := e2 k hk2
    have h5 := (n1.lt k hk).2
    omega
/-- Between two rounds: two stacks of types, as long as each other. -/
def SmInv (w : World) (R : Bool) (t5 t6 : Value) (wr : World) (s : Nat) : Prop :=
  ∃ F G : Fo, F.size = s ∧ F.len = G.len ∧ F.size ≤ 1000000 ∧ G.size ≤ 1000000 ∧ F.same G = R ∧ wr.ownsRow w.heap.size 30 3 t5 F.len (F.top.flatMap trC) ∧ wr.ownsRow w.heap.size 30 3 t6 G.len (G.top.flatMap trC) ∧
    (∀ k, t5.ownBlock = some k → t6.ownBlock ≠ some k) ∧ TyL w.heap.size wr F ∧ TyL w.heap.size wr G ∧ Below w.heap.size w wr
end Go.Proofs.YtbnpmeaaaecciaaGreat
/- graph.each: in which order; and what is read of a row of one's own. -/
namespace Go.Proofs.YtbnpmeaaaecciaaGreat
open Go.RowKit Go.Shelf
/-- All that a stack of types is made of, as they come off it; the other way round: each behind its parts, from the left. -/
def grO : Fo → List Tr
  | .nil => []
  | .cons k n u ps r => grO r ++ (k, n, u) :: grO ps
theorem grO_app (f g : Fo) : grO (f.app g) = grO g ++ grO f := by
  induction f with
  | nil => simp [Fo.app, grO]
  | cons k n u ps r _ ih => simp [Fo.app, grO, ih]
theorem grO_size (f : Fo) : (grO f).length = f.size := by
  induction f with
  | nil => rfl
  | cons k n u ps r i1 i2 => simp only [grO, List.length_append, List.length_cons, Fo.size]; omega
theorem grO_pre (f : Fo) : ∀ x ∈ grO f, x ∈ f.pre := by
  induction f with
  | nil => intro x hx; cases hx
  | cons k n u ps r i1 i2 =>
    intro x hx
    simp only [grO, List.mem_append, List.mem_cons] at hx
    simp only [Fo.pre, List.mem_cons, List.mem_append]
    rcases hx with hx | rfl | hx
    · exact .inr (.inr (i2 x hx))
    · exact .inl rfl
    · exact .inr (.inl (i1 x hx))
theorem trC_at (L : List Tr) (i : Nat) (hi : i < L.length) : (L.flatMap trC)[i * 3]? = some (.int .i64 L[i].1) ∧ (L.flatMap trC)[i * 3 + 1]? = some (.int .i64 L[i].2.1) ∧ (L.flatMap trC)[i * 3 + 2]? = some (slv L[i].2.2) := by
  induction L generalizing i with
  | nil => simp at hi
  | cons x L ih =>
    cases i with
    | zero => simp [trC]
    | succ i =>
      have := ih i (by simpa using hi)
      have e : ∀ j, ((x :: L).flatMap trC)[(i + 1) * 3 + j]? = (L.flatMap trC)[i * 3 + j]? := fun j => by
        rw [List.flatMap_cons, List.getElem?_append_right (by simp [trC]; omega)]
        congr 1
        simp [trC]; omega
      have e0 := e 0
      simp only [Nat.add_zero] at e0
      rw [e0, e 1, e 2]
      simpa using this
/-- A row of one's own, read. -/
theorem own_rdY {w : World} {base : Nat} {v : Value} {L : List Tr} (h : w.ownsRow base 30 3 v L.length (L.flatMap trC)) (S : Nat → Prop) (hS : ∀ g, v.ownBlock = some g → S g) : RdY S w v L := by
  have h0 := h
  rcases h.2 with ⟨rfl, hn⟩ | ⟨g, cap, cur, rfl, hb, hg, _⟩
  · exact ⟨none, 0, by rw [hn], fun hp => by omega⟩
  · refine ⟨_, cap, rfl, fun hp => ⟨g, 0, cur, _, rfl, hS g rfl, hg, fun i hi => ?_⟩⟩
    obtain ⟨q0, q1, q2⟩ := trC_at L i hi
    simp only [Nat.zero_add]
    exact ⟨by rw [h0.cellAt _ (by omega)]; exact q0, by rw [h0.cellAt _ (by omega)]; exact q1, by rw [h0.cellAt _ (by omega)]; exact q2⟩
/-- An append of one type onto a row of one's own. -/
theorem app_one (W : World) (base : Nat) (v : Value) (L : List Tr) (own : W.ownsRow base 30 3 v L.length (L.flatMap trC)) (vx : Value) (x : Tr) (rd : Rd W 3 vx 1 (trC x)) (hl : L.length ≤ 10000000) (hbase : base ≤ W.heap.size) :
    ∃ (v' : Value) (W' : World), (app_ #[28, 28] 28 #[v, vx]).run Tryz.prog W = .ok v' W' ∧ W'.ownsRow base 30 3 v' (L ++ [x]).length ((L ++ [x]).flatMap trC) ∧ Below base W W' ∧ W.grownBy W' v.ownBlock ∧ (v'.ownBlock = v.ownBlock ∨ v'.ownBlock = some W.heap.size) := by
  obtain ⟨i0, hi0, hz0, hz1, hz2⟩ := info_parts tyInfo
  have rd' : Rd W 3 vx [x].length ([x].flatMap trC) := by simpa using rd
  obtain ⟨v1, w1, hrun, hown, hg, hat⟩ := run_append_rd (P := Tryz.prog) W base 28 28 30 i0 _ 3 40 Tryz.underlying28 hi0 hz0 hz1 hz2 rfl (by omega) v _ _ own vx _ _ rd' (trC_one _) (by unfold maxLen; simp; omega) (by simp; omega) hbase
  refine ⟨v1, w1, hrun, ?_, (Below.refl _ _).grown hg hbase (fun k e => (own.lt k e).1), hg, hat⟩
  rw [List.length_append, List.flatMap_append]
  exact hown
end Go.Proofs.YtbnpmeaaaecciaaGreat
