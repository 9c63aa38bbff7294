/- Texts of one proof, one behind the other. -/
import Derived.Test.YtifdbmdfkhnojaaDoorMgSubstApplies7
import Derived.Test.YtifdbmdfkhnojaaDoorMgSubstApplies2
import Derived.Test.YtifdbmdfkhnojaaDoorMgSubstApplies4
import Derived.Test.YtifdbmdfkhnojaaDoorMgSubstApplies6
import Derived.Test.YtifdbmdfkhnojaaDoorShBu
import Derived.Laws.IdiomStrings
import Derived.WalkSmall
import Derived.Lib.ItoaLen
import Derived.Test.YtifdbmdfkhnojaaDoorMgSubstApplies5
/- A type's text: the plain facts; a variable's text. -/
namespace Go.Proofs.YtifdbmdfkhnojaaDoor
open Go.RowKit Go.Shelf Go.Sort Go.Maps

/-- A variable's text. -/
def nameB (n : Int) : List UInt8 :=
  if (decide (0 ≤ n) && decide (n < 1073741824)) then 39 :: UInt8.ofNat (97 + (n % 26).toNat) :: (if n < 26 then [] else Lib.itoa (n / 26)) else []
/-- A table that stands. -/
def Tab (w : World) : Prop := Lib.TabIs Tryd.prog w "internal/strconv.uint64pow10" .u64 Lib.pow10Tab
theorem gTab : (Tryd.prog.globalNamed "internal/strconv.uint64pow10").isSome = true := by kernel_rfl
theorem Tab.below {w w' : World} (h : Tab w) (hb : Below w.heap.size w w') : Tab w' := by
  obtain ⟨g, hg⟩ := Option.isSome_iff_exists.1 gTab
  have hlt : g < w.heap.size := by
    have h2 := h
    unfold Tab Lib.TabIs World.var? at h2
    rw [hg, Option.bind_some] at h2
    rcases Nat.lt_or_ge g w.heap.size with h' | h'
    · exact h'
    · rw [Array.getElem?_eq_none h'] at h2
      cases h2
  exact var?_below hb hg hlt h
theorem below_grow (w : World) (k : Nat) (os : Array Obj) : Below w.heap.size w (grow (w.drewN k) os) := by
  refine (below_drewN (Below.refl _ w) k).trans ⟨rfl, rfl, rfl, ?_, fun i hi => ?_⟩
  · simp [grow]
  · have hd : (w.drewN k).heap = w.heap := rfl
    show ((w.drewN k).heap ++ os)[i]? = _
    rw [hd, Array.getElem?_append_left hi]
theorem bapp (a b : List UInt8) : (⟨a.toArray⟩ : ByteArray) ++ ⟨b.toArray⟩ = ⟨(a ++ b).toArray⟩ := by
  apply ByteArray.ext
  simp [ByteArray.data_append]
/-- A part's text, an arrow's in brackets. -/
def brk (x : Int × List UInt8) : List UInt8 := if x.1 = 4 then 40 :: (x.2 ++ [41]) else x.2
def sepT : List (Int × List UInt8) → List UInt8
  | [] => []
  | [x] => brk x
  | x :: y :: r => brk x ++ 32 :: 42 :: 32 :: sepT (y :: r)
/-- A type's text, of its parts'. -/
def oneT (k n : Int) (l : List (Int × List UInt8)) : List UInt8 :=
  if k = 1 then nameB n else if k = 2 then [105, 110, 116] else if k = 3 then [98, 111, 111, 108]
  else if k = 4 then (match l with | [x, y] => brk x ++ 32 :: 45 :: 62 :: 32 :: y.2 | _ => [])
  else if k = 5 then 40 :: (sepT l ++ [41]) else []
namespace Fo
def txts : Fo → List (Int × List UInt8)
  | nil => []
  | cons k n _ ps r => (k, oneT k n ps.txts) :: r.txts
end Fo
set_option maxHeartbeats 1000000 in
set_option maxRecDepth 100000 in
theorem name_any (n : Int) (w : World) (ht : Tab w) : Calls Tryd.prog 69 #[.int .i64 n] w fun e w' => e = .returned (.string ⟨(nameB n).toArray⟩) ∧ Below w.heap.size w w' := by
  go_enter Tryd.func69, Tryd.ntmps69
  obtain ⟨b, hb⟩ : ∃ b, (decide (0 ≤ n) && decide (n < 1073741824)) = b := ⟨_, rfl⟩
  have hn := number_any n
  rw [hb] at hn
  cases b
  · go_wp2_with (go_at_call 75; refine (hn _).mono ?_; rintro e w' ⟨rfl, hw'⟩; subst w')
    go_ret
    refine ⟨?_, Below.refl _ _⟩
    rw [nameB, hb]; rfl
  · simp only [Bool.and_eq_true] at hb
    obtain ⟨hb1, hb2⟩ := hb
    have h0 := of_decide_eq_true hb1
    have h1 := of_decide_eq_true hb2
    have hm1 : 0 ≤ n % 26 := Int.emod_nonneg _ (by omega)
    have hm2 : n % 26 < 26 := Int.emod_lt_of_pos _ (by omega)
    obtain ⟨c, hc⟩ : ∃ c, UInt8.ofNat (97 + (n % 26).toNat) = c := ⟨_, rfl⟩
    have hct : (c.toNat : Int) = 97 + n % 26 := by
      rw [← hc, UInt8.toNat_ofNat']
      omega
    have hcv := run_convert_bytes_back (P := Tryd.prog) (w.alloc (.cells #[.int .u8 39, .int .u8 (97 + n % 26)] 5)) 80 9 5 ⟨w.heap.size, 0, none⟩ 2 [39, c] Tryd.underlying80 Tryd.underlying5 Tryd.underlying9 (by
      intro j hj
      have := cells_new w [.int .u8 39, .int .u8 (97 + n % 26)] 5
      match j, hj with
      | 0, _ => exact this 0 _ rfl
      | 1, _ => rw [show ([39, c] : List UInt8)[1] = c from rfl, hct]; exact this 1 _ rfl)
    simp only [List.length_cons, List.length_nil, Nat.reduceAdd] at hcv
    by_cases h26 : n < 26
    · have f1 : decide (n < 26) = true := decide_eq_true h26
      go_wp2_with (go_at_call 75; refine (hn _).mono ?_; rintro e w' ⟨rfl, hw'⟩; subst w')
      go_ret
      refine ⟨?_, (Below.refl _ _).alloc (Nat.le_refl _) _⟩
      rw [nameB, hb1, hb2, hc]
      simp [h26]
    · have f1 : decide (n < 26) = false := decide_eq_false h26
      have hb1' := (Below.refl w.heap.size w).alloc (Nat.le_refl _) (.cells #[.int .u8 39, .int .u8 (97 + n % 26)] 5)
      have hlen : (Lib.itoa (n / 26)).length ≤ 21 := Lib.itoa_length_le _ (by omega) (by omega)
      have HT := Lib.hid (Tryd.strconv_Itoa (n / 26) (by omega) (by omega) (w.alloc (.cells #[.int .u8 39, .int .u8 (97 + n % 26)] 5)) (ht.below hb1'))
      go_wp2_with (first | (go_at_call 75; refine (hn _).mono ?_; rintro e w' ⟨rfl, hw'⟩; subst w') | (go_at_call 77; refine HT.out.mono ?_; rintro e w' ⟨rfl, kk, os, hw'⟩; subst w'))
      go_ret
      refine ⟨?_, hb1'.trans ((below_grow _ kk os).mono (by simp))⟩
      rw [nameB, hb1, hb2, hc]
      have := bapp [39, c] (Lib.itoa (n / 26))
      rw [if_neg (show ¬ n < 26 by omega)]
      simpa using this
end Go.Proofs.YtifdbmdfkhnojaaDoor
/- types.Right, types.Has. -/
namespace Go.Proofs.YtifdbmdfkhnojaaDoor
open Go.RowKit Go.Shelf
attribute [local go_sem] Oper.semAt_some

/-- Is every one of them a type, its parts left aside? -/
def allAlone (l : List Tr) : Bool := l.all fun x => alone x.1 x.2.1 x.2.2.2.1
theorem load_bool {w : World} {g : Nat} {b : Bool} (h : w.cell? ⟨g, 0, none⟩ = some (.bool b)) : (loadVar 4 ⟨g, 0, none⟩).run Tryd.prog w = .ok (.bool b) w := by
  go_simp
set_option maxRecDepth 100000 in
set_option maxHeartbeats 2000000 in
theorem right_any (w : World) (B : Nat) (k n : Int) (u : Sl) (ps : Fo) (hB : B ≤ w.heap.size) (hps : TyV B w ps (slv u)) (hs : ps.size < 1000000) :
    Calls Tryd.prog 37 #[tyVal k n (slv u)] w fun e w' => e = .returned (.bool (allAlone (Fo.cons k n u ps .nil).pre)) ∧ Below w.heap.size w w' := by
  obtain ⟨u1, u2, u3⟩ := u
  dsimp only [tyVal, slv] at hps ⊢
  refine (callsIn_wide (n := 4)).1 ?_
  refine callsIn_of_wp_marks Tryd.func37 rfl trivial ?_ rfl
  simp only [Tryd.ntmps37, List.size_toArray, List.length_cons, List.length_nil, Nat.reduceAdd, Nat.reduceSub, Array.replicate_succ, Array.replicate_zero, List.push_toArray, List.append_toArray, List.nil_append, List.cons_append]
  gi_wp2_with (refine ⟨trivial, ?_⟩; gi_at_call 59; refine (callsIn_wide.2 (all_make _ 1 1 _)).mono ?_; rintro e w' ⟨rfl, rfl⟩)
  obtain ⟨wa, hwa⟩ : ∃ wa, (w.alloc (Obj.cells #[.int .i64 k, .int .i64 n, .slice u1 u2 u3] 25)).alloc (Obj.cells #[.bool false] 4) = wa := ⟨_, rfl⟩
  have hsa : wa.heap.size = w.heap.size + 1 + 1 := by rw [← hwa]; simp
  have hba : Below w.heap.size w wa := by rw [← hwa]; exact ((Below.refl _ w).alloc (Nat.le_refl _) _).alloc (by simp) _
  have bz : Boxed wa (w.heap.size + 1) 4 (.bool false) := by
    rw [← hwa]
    have := Boxed.new (w.alloc (Obj.cells #[.int .i64 k, .int .i64 n, .slice u1 u2 u3] 25)) 4 (.bool false)
    rwa [World.size_alloc] at this
  obtain ⟨w4, hw4, hs4, hbx, hrd, hTL, hb4⟩ := one_laid (w := wa) (B := B) k n (u1, u2, u3) ps (by omega) (hps.below (hba.mono hB))
  dsimp only [slv] at hw4
  rw [hwa, ← hsa, hw4]
  have bz4 : Boxed w4 (w.heap.size + 1) 4 (.bool false) := (hb4.block _ (by omega)).trans bz
  have hb04 : Below w.heap.size w w4 := hba.trans (hb4.mono (by omega))
  have hf : (Fo.cons k n (u1, u2, u3) ps .nil).size = 1 + ps.size := by simp [Fo.size]
  refine wpIn_rangeC (by omega) (gf := 73) (lb := #[.pointer (some ⟨wa.heap.size + 1, 0, none⟩)]) rfl (enters_of Tryd.func73 (by kernel_rfl) rfl)
    (all_seq 3 (by omega) (wa.heap.size + 1) B _ (.cons k n (u1, u2, u3) ps .nil) (by omega) w4 (by omega) hbx hrd hTL) (Below.refl _ _) KpC.t (KpC.b (by omega)) (fun _ => rfl)
    (fun pre W => allAlone pre = true ∧ Boxed W (w.heap.size + 1) 4 (.bool false) ∧ Below w.heap.size w W) (fun c pre W => (c = .ret ∧ allAlone pre = false) ∧ Boxed W (w.heap.size + 1) 4 (.bool false) ∧ Below w.heap.size w W)
    (OwnFrom.and (ownFrom_pure _ _) (OwnFrom.and (Own.from (boxed_own _ _ (fun _ => .bool false)) _) (below_own (by omega) (Nat.le_refl _)))) (fun _ => OwnFrom.and (ownFrom_pure _ _) (OwnFrom.and (Own.from (boxed_own _ _ (fun _ => .bool false)) _) (below_own (by omega) (Nat.le_refl _))))
    (AbC.and AbC.pure (AbC.and (box_ab (by decide)) (below_ab (by omega) (Nat.le_refl _)))) (fun _ => AbC.and AbC.pure (AbC.and (box_ab (by decide)) (below_ab (by omega) (Nat.le_refl _))))
    ⟨rfl, bz4, hb04⟩
    (fun x a' W => ∃ Bx, (W.cell? ⟨Bx, 0, none⟩ = some (.int .i64 x.1) ∧ W.cell? ⟨Bx, 1, none⟩ = some (.int .i64 x.2.1) ∧ W.cell? ⟨Bx, 2, none⟩ = some (slv x.2.2)) ∧ a' = { tmps := #[tyVal k n (.slice u1 u2 u3), .pointer (some ⟨w.heap.size, 0, none⟩), .pointer (some ⟨w.heap.size + 1, 0, none⟩), .pointer (some ⟨Bx, 0, none⟩), tyVal k n (.slice u1 u2 u3), .slice (some ⟨wa.heap.size, 0, none⟩) 1 1, .func (.func 73) #[] #[.pointer (some ⟨wa.heap.size + 1, 0, none⟩)], trV x, undef, undef, undef], defers := [] })
    (fun x a' s W W' row hs hg hr => by
      obtain ⟨Bx, ⟨c0, c1, c2⟩, ha⟩ := hs
      exact ⟨Bx, ⟨cell_kept c0 hg (fun r e => (hr r e).2), cell_kept c1 hg (fun r e => (hr r e).2), cell_kept c2 hg (fun r e => (hr r e).2)⟩, ha⟩) ?assign ?body ?done ?stop
  case assign =>
    rintro l pre x W K ⟨hi1, hi2, hi3⟩ hK
    obtain ⟨x0, x1, A3, n3, c3⟩ := x
    dsimp only [trV, slv] at hK ⊢
    have hsz := hi3.size
    gi_wp2
    exact hK _ _ ((KeepsOthers.alloc _ _).from _) (KpC.of_below ((Below.refl _ _).alloc (Nat.le_refl _) _) (by omega)) ⟨hi1, hi2.alloc _, hi3.alloc hsz _⟩ ⟨W.heap.size, ⟨by go_simp, by go_simp, by go_simp⟩, by simp [tyVal]⟩
  case body =>
    rintro l pre x a' W hl ⟨hi1, hi2, hi3⟩ ⟨Bx, ⟨c0, c1, c2⟩, rfl⟩ hlt
    obtain ⟨x0, x1, A3, n3, c3⟩ := x
    dsimp only [trV, slv, tyVal] at c0 c1 c2 ⊢
    obtain ⟨b, hb⟩ : ∃ b, alone x0 x1 n3 = b := ⟨_, rfl⟩
    have FA := Lib.hid (alone_any x0 x1 A3 n3 c3 W)
    rw [hb] at FA
    have hap : allAlone (pre ++ [(x0, x1, A3, n3, c3)]) = b := by
      have : allAlone (pre ++ [(x0, x1, A3, n3, c3)]) = (allAlone pre && alone x0 x1 n3) := by simp [allAlone]
      rw [this, hi1, hb]; rfl
    have HAP := Lib.hid hap
    have HSZ := Lib.hid hi3.size
    have HS4 := Lib.hid hs4
    have HSA := Lib.hid hsa
    clear hap hb hf hs4 hsa hs
    cases b
    · gi_wp2_with (refine ⟨trivial, ?_⟩; gi_at_call 60; refine (CallsIn.inRound l (callsIn_wide.2 FA.out)).mono ?_; rintro e w' ⟨rfl, hbw⟩; have hi2' : Boxed w' (w.heap.size + 1) 4 (.bool false) := (hbw.block _ hi2.lt).trans hi2; have bc := hi2'.cell; have bf := hi2'.frozen; have HB2 := Lib.hid hi2'; clear hi2')
      refine ⟨⟨Nat.le_trans hbw.size (KeepsOthers.setCell w' _ _).size, fun j o _ hj ho => (KeepsOthers.setCell w' _ _).same j o ((hbw.block j (Array.getElem?_eq_some_iff.1 hj).1).trans hj) ho⟩, ⟨rfl, HAP.out⟩, HB2.out.set _, ?_⟩
      have hb1 : Below w.heap.size w w' := hi3.trans (hbw.mono HSZ.out)
      exact hb1.trans ((Below.refl _ _).grown (grownBy_setCell' w' (w.heap.size + 1) _) hb1.size (fun k e => by cases e; omega))
    · gi_wp2_with (refine ⟨trivial, ?_⟩; gi_at_call 60; refine (CallsIn.inRound l (callsIn_wide.2 FA.out)).mono ?_; rintro e w' ⟨rfl, hbw⟩)
      refine ⟨⟨hbw.size, fun j o _ hj _ => (hbw.block j (Array.getElem?_eq_some_iff.1 hj).1).trans hj⟩, KpC.of_below hbw (Nat.le_trans hB HSZ.out), HAP.out, (hbw.block _ hi2.lt).trans hi2, hi3.trans (hbw.mono HSZ.out)⟩
  case done =>
    rintro D ys W hD rfl ⟨hi1, hi2, hi3⟩ hK
    have bc := hi2.cell
    have bf := hi2.frozen
    have HB2 := Lib.hid hi2
    have HA := Lib.hid hi1
    clear hi2 hi1 hf
    gi_wp2
    have bx : Boxed ((W.setCell ⟨w.heap.size + 1, 0, none⟩ (.bool true)).putObj D (.deferred none)) (w.heap.size + 1) 4 (.bool true) := (HB2.out.set _).kept (grownBy_putObj' _ D (.deferred none)) (fun e => by cases e; omega)
    have hK' : (W.setCell ⟨w.heap.size + 1, 0, none⟩ (.bool true)).heap[D]? = some (.deferred (some [])) := ((grownBy_setCell' W (w.heap.size + 1) (.bool true)).block D (Array.getElem?_eq_some_iff.1 hK).1 (fun e => by cases e; omega)).trans hK
    refine ⟨by simp, .inl ⟨_, _, rfl, run_takeDeferred hK', ?_⟩⟩
    refine ⟨_, results_box rfl _ _ _ _ rfl (load_bool bx.cell), ?_, ?_⟩
    · rw [HA.out]
    · have h1 := hi3.trans ((Below.refl _ _).grown (grownBy_setCell' W (w.heap.size + 1) (.bool true)) hi3.size (fun k e => by cases e; omega))
      exact h1.trans ((Below.refl _ _).grown (grownBy_putObj' _ D (.deferred none)) h1.size (fun k e => by cases e; omega))
  case stop =>
    rintro D c pre W hD ⟨hne, s, hsp⟩ ⟨⟨rfl, hi1⟩, hi2, hi3⟩ hK
    gi_wp2
    have bx : Boxed (W.putObj D (.deferred none)) (w.heap.size + 1) 4 (.bool false) := hi2.kept (grownBy_putObj' _ D (.deferred none)) (fun e => by cases e; omega)
    refine ⟨by simp, .inl ⟨_, _, rfl, run_takeDeferred hK, ?_⟩⟩
    refine ⟨_, results_box rfl _ _ _ _ rfl (load_bool bx.cell), ?_, hi3.trans ((Below.refl _ _).grown (grownBy_putObj' _ D (.deferred none)) hi3.size (fun k e => by cases e; omega))⟩
    have : allAlone (pre ++ s) = false := by
      have h2 : allAlone (pre ++ s) = (allAlone pre && allAlone s) := by simp [allAlone]
      rw [h2, hi1]; rfl
    rw [← hsp, this]
/-- Is it that variable? -/
def isVar (v : Int) (x : Tr) : Bool := x.1 == 1 && x.2.1 == v
end Go.Proofs.YtifdbmdfkhnojaaDoor
/- types.bracketed; what pieces are. -/
namespace Go.Proofs.YtifdbmdfkhnojaaDoor
open Go.RowKit Go.Shelf

/-- A piece: a text that stands as it is, and a type's. -/
structure Pc where
  s : List UInt8
  k : Int
  n : Int
  u : Sl
  ps : Fo
def strB (s : List UInt8) : Value := .string ⟨s.toArray⟩
def pcC (p : Pc) : List Value := [strB p.s, .int .i64 p.k, .int .i64 p.n, slv p.u]
def pcV (p : Pc) : Value := .agg #[strB p.s, .int .i64 p.k, .int .i64 p.n, slv p.u]
/-- A piece that is a text. -/
abbrev pcS (s : List UInt8) : Pc := ⟨s, 0, 0, (none, 0, 0), .nil⟩
/-- A piece that is a type. -/
abbrev pcT (k n : Int) (u : Sl) (ps : Fo) : Pc := ⟨[], k, n, u, ps⟩
theorem pcC_len (L : List Pc) : (L.flatMap pcC).length = L.length * 4 := by
  induction L with
  | nil => rfl
  | cons x L ih => simp [pcC, ih]; omega
theorem pcC_one (L : List Pc) : ∀ u ∈ L.flatMap pcC, u.oneCell' = true := by
  intro u hu
  obtain ⟨x, _, hx⟩ := List.mem_flatMap.1 hu
  simp only [pcC, List.mem_cons, List.not_mem_nil, or_false] at hx
  rcases hx with rfl | rfl | rfl | rfl <;> rfl
namespace Fo
/-- Is each of a list a type? -/
def ok : Fo → Bool
  | nil => true
  | cons k n _ ps r => alone k n ps.len && ps.ok && r.ok
end Fo
/-- What a piece is told by. -/
def ptx (p : Pc) : List UInt8 := p.s ++ oneT p.k p.n p.ps.txts
/-- A piece, in memory: a text, or a type. -/
def PcOk (B : Nat) (w : World) (p : Pc) : Prop := TyV B w p.ps (slv p.u) ∧ (p.k = 0 ∧ p.ps = .nil ∨ alone p.k p.n p.ps.len = true ∧ p.ps.ok = true) ∧ p.s.length ≤ 40
theorem PcOk.below {B : Nat} {w w' : World} {p : Pc} (h : PcOk B w p) (hb : Below B w w') : PcOk B w' p := ⟨h.1.below hb, h.2⟩
theorem PcOk.str (B : Nat) (w : World) (s : List UInt8) (hs : s.length ≤ 40) : PcOk B w (pcS s) := ⟨tyV_nil.2 ⟨none, 0, rfl⟩, .inl ⟨rfl, rfl⟩, hs⟩
/-- How much a piece weighs. -/
def pw (p : Pc) : Nat := if p.k = 0 then 1 else 3 + 6 * p.ps.size
def pws (L : List Pc) : Nat := (L.map pw).sum
theorem pws_app (a b : List Pc) : pws (a ++ b) = pws a + pws b := by simp [pws]
theorem ptx_str (s : List UInt8) : ptx (pcS s) = s := by simp [ptx, oneT]
theorem ptx_ty (k n : Int) (u : Sl) (ps : Fo) : ptx (pcT k n u ps) = oneT k n ps.txts := by simp [ptx]
theorem alone_ne (k n : Int) (m : Nat) (h : alone k n m = true) : k ≠ 0 := by
  rintro rfl
  simp [alone] at h
/-- A part's pieces. -/
def brkP (k n : Int) (u : Sl) (ps : Fo) : List Pc := if k = 4 then [pcS [40], pcT k n u ps, pcS [41]] else [pcT k n u ps]
theorem brkP_txt (k n : Int) (u : Sl) (ps : Fo) : (brkP k n u ps).flatMap ptx = brk (k, oneT k n ps.txts) := by
  unfold brkP brk
  split <;> simp [ptx, oneT]
theorem brkP_len (k n : Int) (u : Sl) (ps : Fo) : (brkP k n u ps).length ≤ 3 := by unfold brkP; split <;> simp
theorem brkP_pw (k n : Int) (u : Sl) (ps : Fo) : pws (brkP k n u ps) ≤ 5 + 6 * ps.size := by
  unfold brkP
  split
  · simp [pws, pw]; split <;> omega
  · simp [pws, pw]; split <;> omega
theorem brkP_ok {B : Nat} {w : World} {k n : Int} {u : Sl} {ps : Fo} (h : PcOk B w (pcT k n u ps)) : ∀ p ∈ brkP k n u ps, PcOk B w p := by
  intro p hp
  unfold brkP at hp
  split at hp
  · simp only [List.mem_cons, List.not_mem_nil, or_false] at hp
    rcases hp with rfl | rfl | rfl
    · exact PcOk.str _ _ _ (by simp)
    · exact h
    · exact PcOk.str _ _ _ (by simp)
  · simp only [List.mem_cons, List.not_mem_nil, or_false] at hp
    subst hp
    exact h
theorem own_new (w : World) (e : TypeId) (size n : Nat) (L : List Value) (hL : L.length = n * size) (hn : n ≤ maxLen) (w0 : World) (h0 : Below w0.heap.size w0 w) : (w.alloc (.cells L.toArray e)).ownsRow w0.heap.size e size (.slice (some ⟨w.heap.size, 0, none⟩) n n) n L := own_full w _ h0.size e size n L hL hn
set_option maxRecDepth 100000 in
theorem bracketed_any (k n : Int) (u : Sl) (ps : Fo) (w : World) : Calls Tryd.prog 70 #[tyVal k n (slv u)] w fun e w' => ∃ v, e = .returned v ∧ w'.ownsRow w.heap.size 84 4 v (brkP k n u ps).length ((brkP k n u ps).flatMap pcC) ∧ Below w.heap.size w w' := by
  obtain ⟨u1, u2, u3⟩ := u
  dsimp only [tyVal, slv]
  have hb := (Below.refl w.heap.size w).alloc (Nat.le_refl _) (.cells #[.int .i64 k, .int .i64 n, .slice u1 u2 u3] 25)
  go_enter Tryd.func70, Tryd.ntmps70
  by_cases h4 : k = 4
  · subst h4
    have ho := (own_new (w.alloc (.cells #[.int .i64 4, .int .i64 n, .slice u1 u2 u3] 25)) 84 4 3 ((brkP 4 n (u1, u2, u3) ps).flatMap pcC) rfl (by unfold maxLen; omega) w hb)
    rw [World.size_alloc] at ho
    have HO := Lib.hid ho
    have HB := Lib.hid (hb.alloc hb.size (.cells ((brkP 4 n (u1, u2, u3) ps).flatMap pcC).toArray 84))
    clear hb ho
    go_wp2_with fail
    go_ret
    exact ⟨_, rfl, HO.out, HB.out⟩
  · have f1 : (k == 4) = false := beq_eq_false_iff_ne.2 h4
    have hbk : brkP k n (u1, u2, u3) ps = [pcT k n (u1, u2, u3) ps] := by unfold brkP; rw [if_neg h4]
    rw [hbk]
    have ho := (own_new (w.alloc (.cells #[.int .i64 k, .int .i64 n, .slice u1 u2 u3] 25)) 84 4 1 ([pcT k n (u1, u2, u3) ps].flatMap pcC) rfl (by unfold maxLen; omega) w hb)
    rw [World.size_alloc] at ho
    have HO := Lib.hid ho
    have HB := Lib.hid (hb.alloc hb.size (.cells ([pcT k n (u1, u2, u3) ps].flatMap pcC).toArray 84))
    clear hb hbk ho
    go_wp2_with fail
    go_ret
    exact ⟨_, rfl, HO.out, HB.out⟩
end Go.Proofs.YtifdbmdfkhnojaaDoor
