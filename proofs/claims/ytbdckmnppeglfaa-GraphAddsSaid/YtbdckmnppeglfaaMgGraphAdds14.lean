/- Texts of one proof, one behind the other. -/
import Derived.Test.YtbdckmnppeglfaaMgGraphAdds6
import Derived.Test.YtbdckmnppeglfaaMgGraphAdds9
/- types.Right, types.Has. -/
namespace Go.Proofs.Ytbdckmnppeglfaa
open Go.RowKit Go.Shelf
attribute [local go_sem] Oper.semAt_some

/-- Is every one of them a type, its parts left aside? -/
def allAlone (l : List Tr) : Bool := l.all fun x => alone x.1 x.2.1 x.2.2.2.1
theorem load_bool {w : World} {g : Nat} {b : Bool} (h : w.cell? ⟨g, 0, none⟩ = some (.bool b)) : (loadVar 4 ⟨g, 0, none⟩).run Try.prog w = .ok (.bool b) w := by
  go_simp
set_option maxRecDepth 100000 in
set_option maxHeartbeats 2000000 in
theorem right_any (w : World) (B : Nat) (k n : Int) (u : Sl) (ps : Fo) (hB : B ≤ w.heap.size) (hps : TyV B w ps (slv u)) (hs : ps.size < 1000000) :
    Calls Try.prog 59 #[tyVal k n (slv u)] w fun e w' => e = .returned (.bool (allAlone (Fo.cons k n u ps .nil).pre)) ∧ Below w.heap.size w w' := by
  obtain ⟨u1, u2, u3⟩ := u
  dsimp only [tyVal, slv] at hps ⊢
  refine (callsIn_wide (n := 4)).1 ?_
  refine callsIn_of_wp_marks Try.func59 rfl trivial ?_ rfl
  simp only [Try.ntmps59, List.size_toArray, List.length_cons, List.length_nil, Nat.reduceAdd, Nat.reduceSub, Array.replicate_succ, Array.replicate_zero, List.push_toArray, List.append_toArray, List.nil_append, List.cons_append]
  gi_wp2_with (refine ⟨trivial, ?_⟩; gi_at_call 85; refine (callsIn_wide.2 (all_make _ 1 1 _)).mono ?_; rintro e w' ⟨rfl, rfl⟩)
  obtain ⟨wa, hwa⟩ : ∃ wa, (w.alloc (Obj.cells #[.int .i64 k, .int .i64 n, .slice u1 u2 u3] 38)).alloc (Obj.cells #[.bool false] 4) = wa := ⟨_, rfl⟩
  have hsa : wa.heap.size = w.heap.size + 1 + 1 := by rw [← hwa]; simp
  have hba : Below w.heap.size w wa := by rw [← hwa]; exact ((Below.refl _ w).alloc (Nat.le_refl _) _).alloc (by simp) _
  have bz : Boxed wa (w.heap.size + 1) 4 (.bool false) := by
    rw [← hwa]
    have := Boxed.new (w.alloc (Obj.cells #[.int .i64 k, .int .i64 n, .slice u1 u2 u3] 38)) 4 (.bool false)
    rwa [World.size_alloc] at this
  obtain ⟨w4, hw4, hs4, hbx, hrd, hTL, hb4⟩ := one_laid (w := wa) (B := B) k n (u1, u2, u3) ps (by omega) (hps.below (hba.mono hB))
  dsimp only [slv] at hw4
  rw [hwa, ← hsa, hw4]
  have bz4 : Boxed w4 (w.heap.size + 1) 4 (.bool false) := (hb4.block _ (by omega)).trans bz
  have hb04 : Below w.heap.size w w4 := hba.trans (hb4.mono (by omega))
  have hf : (Fo.cons k n (u1, u2, u3) ps .nil).size = 1 + ps.size := by simp [Fo.size]
  refine wpIn_rangeC (by omega) (gf := 104) (lb := #[.pointer (some ⟨wa.heap.size + 1, 0, none⟩)]) rfl (enters_of Try.func104 (by kernel_rfl) rfl)
    (all_seq 3 (by omega) (wa.heap.size + 1) B _ (.cons k n (u1, u2, u3) ps .nil) (by omega) w4 (by omega) hbx hrd hTL) (Below.refl _ _) KpC.t (KpC.b (by omega)) (fun _ => rfl)
    (fun pre W => allAlone pre = true ∧ Boxed W (w.heap.size + 1) 4 (.bool false) ∧ Below w.heap.size w W) (fun c pre W => (c = .ret ∧ allAlone pre = false) ∧ Boxed W (w.heap.size + 1) 4 (.bool false) ∧ Below w.heap.size w W)
    (OwnFrom.and (ownFrom_pure _ _) (OwnFrom.and (Own.from (boxed_own _ _ (fun _ => .bool false)) _) (below_own (by omega) (Nat.le_refl _)))) (fun _ => OwnFrom.and (ownFrom_pure _ _) (OwnFrom.and (Own.from (boxed_own _ _ (fun _ => .bool false)) _) (below_own (by omega) (Nat.le_refl _))))
    (AbC.and AbC.pure (AbC.and (box_ab (by decide)) (below_ab (by omega) (Nat.le_refl _)))) (fun _ => AbC.and AbC.pure (AbC.and (box_ab (by decide)) (below_ab (by omega) (Nat.le_refl _))))
    ⟨rfl, bz4, hb04⟩
    (fun x a' W => ∃ Bx, (W.cell? ⟨Bx, 0, none⟩ = some (.int .i64 x.1) ∧ W.cell? ⟨Bx, 1, none⟩ = some (.int .i64 x.2.1) ∧ W.cell? ⟨Bx, 2, none⟩ = some (slv x.2.2)) ∧ a' = { tmps := #[tyVal k n (.slice u1 u2 u3), .pointer (some ⟨w.heap.size, 0, none⟩), .pointer (some ⟨w.heap.size + 1, 0, none⟩), .pointer (some ⟨Bx, 0, none⟩), tyVal k n (.slice u1 u2 u3), .slice (some ⟨wa.heap.size, 0, none⟩) 1 1, .func (.func 104) #[] #[.pointer (some ⟨wa.heap.size + 1, 0, none⟩)], trV x, undef, undef, undef], defers := [] })
    (fun x a' s W W' row hs hg hr => by
      obtain ⟨Bx, ⟨c0, c1, c2⟩, ha⟩ := hs
      exact ⟨Bx, ⟨cell_kept c0 hg (fun r e => (hr r e).2), cell_kept c1 hg (fun r e => (hr r e).2), cell_kept c2 hg (fun r e => (hr r e).2)⟩, ha⟩) ?assign ?body ?done ?stop
  case assign =>
    rintro l pre x W K ⟨hi1, hi2, hi3⟩ hK
    obtain ⟨x0, x1, A3, n3, c3⟩ := x
    dsimp only [trV, slv] at hK ⊢
    have hsz := hi3.size
    gi_wp2
    exact hK _ _ ((KeepsOthers.alloc _ _).from _) (KpC.of_below ((Below.refl _ _).alloc (Nat.le_refl _) _) (by omega)) ⟨hi1, hi2.alloc _, hi3.alloc hsz _⟩ ⟨W.heap.size, ⟨by go_simp, by go_simp, by go_simp⟩, by simp [tyVal]⟩
  case body =>
    rintro l pre x a' W hl ⟨hi1, hi2, hi3⟩ ⟨Bx, ⟨c0, c1, c2⟩, rfl⟩ hlt
    obtain ⟨x0, x1, A3, n3, c3⟩ := x
    dsimp only [trV, slv, tyVal] at c0 c1 c2 ⊢
    obtain ⟨b, hb⟩ : ∃ b, alone x0 x1 n3 = b := ⟨_, rfl⟩
    have FA := Lib.hid (alone_any x0 x1 A3 n3 c3 W)
    rw [hb] at FA
    have hap : allAlone (pre ++ [(x0, x1, A3, n3, c3)]) = b := by
      have : allAlone (pre ++ [(x0, x1, A3, n3, c3)]) = (allAlone pre && alone x0 x1 n3) := by simp [allAlone]
      rw [this, hi1, hb]; rfl
    have HAP := Lib.hid hap
    have HSZ := Lib.hid hi3.size
    have HS4 := Lib.hid hs4
    have HSA := Lib.hid hsa
    clear hap hb hf hs4 hsa hs
    cases b
    · gi_wp2_with (refine ⟨trivial, ?_⟩; gi_at_call 86; refine (CallsIn.inRound l (callsIn_wide.2 FA.out)).mono ?_; rintro e w' ⟨rfl, hbw⟩; have hi2' : Boxed w' (w.heap.size + 1) 4 (.bool false) := (hbw.block _ hi2.lt).trans hi2; have bc := hi2'.cell; have bf := hi2'.frozen; have HB2 := Lib.hid hi2'; clear hi2')
      refine ⟨⟨Nat.le_trans hbw.size (KeepsOthers.setCell w' _ _).size, fun j o _ hj ho => (KeepsOthers.setCell w' _ _).same j o ((hbw.block j (Array.getElem?_eq_some_iff.1 hj).1).trans hj) ho⟩, ⟨rfl, HAP.out⟩, HB2.out.set _, ?_⟩
      have hb1 : Below w.heap.size w w' := hi3.trans (hbw.mono HSZ.out)
      exact hb1.trans ((Below.refl _ _).grown (grownBy_setCell' w' (w.heap.size + 1) _) hb1.size (fun k e => by cases e; omega))
    · gi_wp2_with (refine ⟨trivial, ?_⟩; gi_at_call 86; refine (CallsIn.inRound l (callsIn_wide.2 FA.out)).mono ?_; rintro e w' ⟨rfl, hbw⟩)
      refine ⟨⟨hbw.size, fun j o _ hj _ => (hbw.block j (Array.getElem?_eq_some_iff.1 hj).1).trans hj⟩, KpC.of_below hbw (Nat.le_trans hB HSZ.out), HAP.out, (hbw.block _ hi2.lt).trans hi2, hi3.trans (hbw.mono HSZ.out)⟩
  case done =>
    rintro D ys W hD rfl ⟨hi1, hi2, hi3⟩ hK
    have bc := hi2.cell
    have bf := hi2.frozen
    have HB2 := Lib.hid hi2
    have HA := Lib.hid hi1
    clear hi2 hi1 hf
    gi_wp2
    have bx : Boxed ((W.setCell ⟨w.heap.size + 1, 0, none⟩ (.bool true)).putObj D (.deferred none)) (w.heap.size + 1) 4 (.bool true) := (HB2.out.set _).kept (grownBy_putObj' _ D (.deferred none)) (fun e => by cases e; omega)
    have hK' : (W.setCell ⟨w.heap.size + 1, 0, none⟩ (.bool true)).heap[D]? = some (.deferred (some [])) := ((grownBy_setCell' W (w.heap.size + 1) (.bool true)).block D (Array.getElem?_eq_some_iff.1 hK).1 (fun e => by cases e; omega)).trans hK
    refine ⟨by simp, .inl ⟨_, _, rfl, run_takeDeferred hK', ?_⟩⟩
    refine ⟨_, results_box rfl _ _ _ _ rfl (load_bool bx.cell), ?_, ?_⟩
    · rw [HA.out]
    · have h1 := hi3.trans ((Below.refl _ _).grown (grownBy_setCell' W (w.heap.size + 1) (.bool true)) hi3.size (fun k e => by cases e; omega))
      exact h1.trans ((Below.refl _ _).grown (grownBy_putObj' _ D (.deferred none)) h1.size (fun k e => by cases e; omega))
  case stop =>
    rintro D c pre W hD ⟨hne, s, hsp⟩ ⟨⟨rfl, hi1⟩, hi2, hi3⟩ hK
    gi_wp2
    have bx : Boxed (W.putObj D (.deferred none)) (w.heap.size + 1) 4 (.bool false) := hi2.kept (grownBy_putObj' _ D (.deferred none)) (fun e => by cases e; omega)
    refine ⟨by simp, .inl ⟨_, _, rfl, run_takeDeferred hK, ?_⟩⟩
    refine ⟨_, results_box rfl _ _ _ _ rfl (load_bool bx.cell), ?_, hi3.trans ((Below.refl _ _).grown (grownBy_putObj' _ D (.deferred none)) hi3.size (fun k e => by cases e; omega))⟩
    have : allAlone (pre ++ s) = false := by
      have h2 : allAlone (pre ++ s) = (allAlone pre && allAlone s) := by simp [allAlone]
      rw [h2, hi1]; rfl
    rw [← hsp, this]
/-- Is it that variable? -/
def isVar (v : Int) (x : Tr) : Bool := x.1 == 1 && x.2.1 == v
end Go.Proofs.Ytbdckmnppeglfaa
/- The answer's Right. -/
namespace Go.Proofs.Ytbdckmnppeglfaa
open Go.RowKit

theorem Fo.pre_split (f : Fo) (j : Nat) (hj : j < f.len) : f.pre = (f.take j).pre ++ (((f.at_ j).1, (f.at_ j).2.1, (f.at_ j).2.2.1) :: (f.at_ j).2.2.2.pre) ++ (f.drop (j + 1)).pre := by
  induction f generalizing j with
  | nil => simp [Fo.len] at hj
  | cons k n v ps r _ ih =>
    cases j with
    | zero => simp [Fo.at_, Fo.pre, Fo.take, Fo.drop]
    | succ j =>
      have := ih j (by simp [Fo.len] at hj; omega)
      simp only [Fo.pre, Fo.take, Fo.at_, Fo.drop]
      rw [this]
      simp
theorem Fo.pre_take (f : Fo) (j : Nat) (hj : j < f.len) : (f.take (j + 1)).pre = (f.take j).pre ++ (((f.at_ j).1, (f.at_ j).2.1, (f.at_ j).2.2.1) :: (f.at_ j).2.2.2.pre) := by
  rw [Fo.take_step f j hj, Fo.pre_app]
  simp [Fo.pre]
theorem allAlone_appJ (a b : List Tr) : allAlone (a ++ b) = (allAlone a && allAlone b) := by simp [allAlone]
theorem allAlone_cons (x : Tr) (b : List Tr) : allAlone (x :: b) = (alone x.1 x.2.1 x.2.2.2.1 && allAlone b) := by simp [allAlone]
theorem TyV.len {B : Nat} {w : World} {f : Fo} {u : Sl} (h : TyV B w f (slv u)) : u.2.1 = f.len := by
  obtain ⟨A, c, hv⟩ := h.slice
  unfold slv at hv
  injection hv
set_option maxHeartbeats 2000000 in
set_option maxRecDepth 100000 in
theorem rright_any (m : Nat) : ∀ (f : Fo) (k n : Int) (v : Value) (w : World), f.size < m → f.size ≤ 1000000 → TyV w.heap.size w f v →
    Calls Try.prog 26 #[tyVal k n v] w fun e w' => e = .returned (.bool (alone k n f.len && allAlone f.pre)) ∧ Below w.heap.size w w' := by
  induction m with
  | zero => intro f k n v w h; omega
  | succ m ih =>
    intro f k n v w hm hs h
    obtain ⟨A, c, rfl⟩ := h.slice
    have H := Lib.hid h
    have IH := Lib.hid ih
    have hll := f.len_le_size
    clear h ih
    unfold tyVal
    go_enter Try.func26, Try.ntmps26
    obtain ⟨q, hq⟩ : ∃ q, f.len = q := ⟨_, rfl⟩
    rw [hq] at hll ⊢
    have HB0 := Lib.hid (show ∀ (cs : Array Value) (t : TypeId), Below w.heap.size w (w.alloc (Obj.cells cs t)) from fun cs t => (Below.refl _ w).alloc (Nat.le_refl _) _)
    have HQ := Lib.hid hq
    clear hq
    have done : alone k n q = false → ∀ (cs : Array Value) (t : TypeId), (Ending.returned (.bool false) = .returned (.bool (alone k n q && allAlone f.pre)) ∧ Below w.heap.size w (w.alloc (Obj.cells cs t))) := by
      intro h1 cs t
      rw [h1]
      exact ⟨rfl, HB0.out _ _⟩
    have DONE := Lib.hid done
    clear done
    by_cases h1 : k = 1
    case' pos =>
      subst h1
      by_cases h2 : n < 0
      · have f2 : decide (n < 0) = true := decide_eq_true h2
        go_wp2_with fail
        go_ret
        exact DONE.out (by unfold alone; rw [if_pos rfl, decide_eq_false (by omega : ¬ 0 ≤ n)]; rfl) _ _
      have f2 : decide (n < 0) = false := decide_eq_false h2
      by_cases h3 : 1073741824 ≤ n
      · have f3 : decide (1073741824 ≤ n) = true := decide_eq_true h3
        go_wp2_with fail
        go_ret
        exact DONE.out (by unfold alone; rw [if_pos rfl, decide_eq_false (by omega : ¬ n < 1073741824)]; simp) _ _
      have f3 : decide (1073741824 ≤ n) = false := decide_eq_false h3
      by_cases h4 : 0 < q
      · have f5 : decide (0 < q) = true := decide_eq_true h4
        go_wp2_with fail
        go_ret
        exact DONE.out (by unfold alone; rw [if_pos rfl, beq_eq_false_iff_ne.2 (by omega : (q : Int) ≠ 0)]; simp) _ _
      have hal : alone 1 n q = true := by
        obtain rfl : q = 0 := by omega
        unfold alone
        rw [if_pos rfl, decide_eq_true (by omega : 0 ≤ n), decide_eq_true (by omega : n < 1073741824)]
        rfl
      have HA := Lib.hid hal
      have f5 : decide (0 < q) = false := decide_eq_false h4
      clear hal h2 h3 h4
      go_wp2_with fail
    case' neg =>
      by_cases h2 : n = 0
      case neg =>
        have f1 : (k == 1) = false := beq_eq_false_iff_ne.2 h1
        have f2 : (n != 0) = true := bne_iff_ne.2 h2
        go_wp2_with fail
        go_ret
        refine DONE.out ?_ _ _
        unfold alone
        simp [h1, h2]
      subst h2
      by_cases h2 : k = 2
      case' pos =>
        subst h2
        by_cases h4 : 0 < q
        · have f5 : decide (0 < q) = true := decide_eq_true h4
          go_wp2_with fail
          go_ret
          exact DONE.out (by unfold alone; simp; omega) _ _
        have hal : alone 2 0 q = true := by obtain rfl : q = 0 := by omega
                                            rfl
        have HA := Lib.hid hal
        have f5 : decide (0 < q) = false := decide_eq_false h4
        clear hal h4 h1
        go_wp2_with fail
      case' neg =>
        by_cases h3 : k = 3
        case' pos =>
          subst h3
          by_cases h4 : 0 < q
          · have f5 : decide (0 < q) = true := decide_eq_true h4
            go_wp2_with fail
            go_ret
            exact DONE.out (by unfold alone; simp; omega) _ _
          have hal : alone 3 0 q = true := by obtain rfl : q = 0 := by omega
                                              rfl
          have HA := Lib.hid hal
          have f5 : decide (0 < q) = false := decide_eq_false h4
          clear hal h4 h1 h2
          go_wp2_with fail
        case' neg =>
          by_cases h4 : k = 4
          case' pos =>
            subst h4
            by_cases h5 : q = 2
            case neg =>
              have f5 : ((q : Int) != 2) = true := bne_iff_ne.2 (by omega)
              go_wp2_with fail
              go_ret
              exact DONE.out (by unfold alone; simp; omega) _ _
            have f5 : ((q : Int) != 2) = false := by rw [h5]; rfl
            have hal : alone 4 0 q = true := by rw [h5]; rfl
            have HA := Lib.hid hal
            clear hal h5 h1 h2 h3
            go_wp2_with fail
          case' neg =>
            by_cases h5 : k = 5
            case' pos =>
              subst h5
              by_cases h6 : q < 2
              · have f5 : decide (q < 2) = true := decide_eq_true h6
                go_wp2_with fail
                go_ret
                exact DONE.out (by unfold alone; simp; omega) _ _
              have f5 : decide (q < 2) = false := decide_eq_false h6
              by_cases h7 : 8 < q
              · have f6 : decide (8 < q) = true := decide_eq_true h7
                go_wp2_with fail
                go_ret
                exact DONE.out (by unfold alone; simp; omega) _ _
              have f6 : decide (8 < q) = false := decide_eq_false h7
              have hal : alone 5 0 q = true := by unfold alone; simp; omega
              have HA := Lib.hid hal
              clear hal h1 h2 h3 h4
              go_wp2_with fail
              all_goals try (exfalso; omega)
            case' neg =>
              have f1 : (k == 1) = false := beq_eq_false_iff_ne.2 h1
              have f2 : (k == 2) = false := beq_eq_false_iff_ne.2 h2
              have f3 : (k == 3) = false := beq_eq_false_iff_ne.2 h3
              have f4 : (k == 4) = false := beq_eq_false_iff_ne.2 h4
              have f5 : (k == 5) = false := beq_eq_false_iff_ne.2 h5
              by_cases h6 : k < 1
              · have f6 : decide (k < 1) = true := decide_eq_true h6
                go_wp2_with fail
                go_ret
                exact DONE.out (by unfold alone; simp [h1, h2, h3, h4, h5]) _ _
              · have f6 : decide (k < 1) = false := decide_eq_false h6
                have f7 : decide (5 < k) = true := decide_eq_true (by omega)
                go_wp2_with fail
                go_ret
                exact DONE.out (by unfold alone; simp [h1, h2, h3, h4, h5]) _ _
    all_goals
      go_loopw [4] (fun t4 wr => ∃ j : Nat, j ≤ q ∧ t4 = .int .i64 j ∧ allAlone (f.take j).pre = true ∧ wr.cell? ⟨w.heap.size, 2, none⟩ = some (.slice A q c) ∧ Below w.heap.size w wr ∧ w.heap.size + 1 ≤ wr.heap.size) (fun t _ => q - (intOf t).toNat)
      case atStart => exact ⟨0, Nat.zero_le _, rfl, by simp [Fo.take_zero, Fo.pre, allAlone], by go_simp, HB0.out _ _, by simp⟩
      case round =>
        obtain ⟨j, hj, rfl, hja, e2, hb, hz⟩ := hrel
        have HB := Lib.hid hb
        have HJA := Lib.hid hja
        clear hja hb
        by_cases hjl : j < q
        · have hjf : j < f.len := by rw [HQ.out]; exact hjl
          obtain ⟨b, off, cap, hv, _, _, hlt, hC⟩ := H.out.form (by omega)
          injection hv with hA _ hcc
          subst hA; subst hcc
          obtain ⟨d0, d1, d2, hch⟩ := tyC_at hC j hjf
          have c0 := (HB.out.cell (p := ⟨b, off + j * 3, none⟩) hlt).trans d0
          have c1 := (HB.out.cell (p := ⟨b, off + j * 3 + 1, none⟩) hlt).trans d1
          have c2 := (HB.out.cell (p := ⟨b, off + j * 3 + 2, none⟩) hlt).trans d2
          have hch' : TyV wr.heap.size wr (f.at_ j).2.2.2 (slv (f.at_ j).2.2.1) := (hch.keep HB.out.size fun b off hb' => HB.out.cell (p := ⟨b, off, none⟩) hb')
          have hsz := f.at_size j hjf
          have hsp := f.pre_split j hjf
          have htk := f.pre_take j hjf
          have hpl := hch.len
          have hrec := IH.out (f.at_ j).2.2.2 (f.at_ j).1 (f.at_ j).2.1 (slv (f.at_ j).2.2.1) wr (by omega) (by omega) hch'
          clear d0 d1 d2 hC hch hch' hsz
          unfold tyVal at hrec
          generalize f.at_ j = p at *
          obtain ⟨pk, pn, pv, pf⟩ := p
          dsimp only at hsp htk hpl hrec c0 c1 c2
          obtain ⟨x, hx⟩ : ∃ x, (alone pk pn pf.len && allAlone pf.pre) = x := ⟨_, rfl⟩
          rw [hx] at hrec
          have hxa : allAlone ((pk, pn, pv) :: pf.pre) = x := by rw [allAlone_cons, ← hx, hpl]
          have HREC := Lib.hid hrec
          have HSP := Lib.hid (show allAlone f.pre = (x && allAlone (f.drop (j + 1)).pre) by rw [hsp, allAlone_appJ, allAlone_appJ, HJA.out, hxa]; rfl)
          have HTK := Lib.hid (show allAlone (f.take (j + 1)).pre = x by rw [htk, allAlone_appJ, HJA.out, hxa]; rfl)
          clear hrec hsp htk hpl hx hxa hjf
          go_wp2_with fail
          refine HREC.out.mono ?_
          rintro e w2 ⟨rfl, hb3⟩
          have e2' := (hb3.cell (p := ⟨w.heap.size, 2, none⟩) (by simp only; omega)).trans e2
          have HB3 := Lib.hid hb3
          clear hb3
          cases x
          · go_wp2_with fail
            go_ret
            exact ⟨ret_bool (by rw [HA.out, HSP.out]; rfl), HB.out.trans (HB3.out.mono (by omega))⟩
          · go_wp2_with fail
            go_roundw
            case rel => exact ⟨j + 1, by omega, by go_num, HTK.out, e2', HB.out.trans (HB3.out.mono (by omega)), Nat.le_trans hz HB3.out.size⟩
            case measure => simp [intOf]; omega
        · obtain rfl : j = q := by omega
          have HT : Hid (f.take j = f) := Lib.hid (by rw [← HQ.out]; exact f.take_len)
          go_wp2_with fail
          go_ret
          exact ⟨ret_bool (by rw [HA.out, ← HT.out, HJA.out]; rfl), HB.out⟩
end Go.Proofs.Ytbdckmnppeglfaa
